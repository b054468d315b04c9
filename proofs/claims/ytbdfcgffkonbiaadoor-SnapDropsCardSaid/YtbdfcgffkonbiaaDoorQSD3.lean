/- Snaps: the law SnapDrops. Written by wip/tools/gen14s.py. -/
import Derived.Test.YtbdfcgffkonbiaaDoorQSD2
import Derived.Test.YtbdfcgffkonbiaaDoorQSN26
namespace Go.Proofs.YtbdfcgffkonbiaaDoor
open Go Go.RowKit
set_option linter.unusedVariables false
set_option linter.unusedSimpArgs false
theorem ul_at {lv lv' : Nat → List It} {vs vs' : Nat → Int} {k n : Nat} {UL : List Nat} (h1 : UL = unlL lv lv' vs vs' 16) (h2 : n = (unlL lv lv' vs vs' k).length) (hk : k < 16) (h : unlB lv lv' vs vs' k = true) (hn : n < UL.length) : UL[n] = k := by
  subst h1; subst h2; exact (unl_at hk h).2
set_option maxRecDepth 100000 in
set_option maxHeartbeats 4000000 in
theorem snapdrops_any (v : Value) (L : List Sn) (a b : Int) (w : World) (tab : TabAt w) (h : RdK 36 snC w v L) (hrs : RdSn w L) (hsz : SzSn L) :
    Calls Tryd.prog 11 #[v, .int .i64 a, .int .i64 b] w fun e w' => e = .returned (.bool true) ∧ Below w.heap.size w w' := by
  have HTAB := Lib.hid tab
  have bel := Below.refl w.heap.size w
  have FW := Lib.hid (few14_any v L w h hrs hsz)
  obtain ⟨ao, nn, cap, rfl⟩ : ∃ a n c, v = .slice a n c := by obtain ⟨a, c, e, _⟩ := h; exact ⟨_, _, _, e⟩
  have zT0 := zeroT_run
  have zT1 := zT_ne
  clear h hrs hsz tab
  go_enter Tryd.func11, Tryd.ntmps11
  go_wp2_with fail
  refine FW.out.mono ?_
  rintro e w1 ⟨v1, L1, rfl, own, fw, h10, g⟩
  have bel := chain bel g
  obtain ⟨a1, n1, c1, rfl⟩ := own_slice own
  obtain rfl := own_count own
  have RK := Lib.hid (own_rdk snC_len own)
  have RS := Lib.hid fw.rd
  have SZ := Lib.hid fw.sz
  have LN := Lib.hid fw.ln
  have hS := Below.refl w1.heap.size w1
  have BW := Lib.hid bel
  clear own fw g FW bel
  have DR := Lib.hid (fun W (g : Below w1.heap.size w1 W) => drop14_any _ L1 a W (HTAB.out.below (chain BW.out g)) (RK.out.below g (Nat.le_refl _)) (RS.out.below g (Nat.le_refl _)) SZ.out LN.out)
  have CH := Lib.hid (fun W (g : Below w1.heap.size w1 W) => changed14_any _ L1 a b W (HTAB.out.below (chain BW.out g)) (RK.out.below g (Nat.le_refl _)) (RS.out.below g (Nat.le_refl _)) SZ.out LN.out)
  have IS0 := fun W (g : Below w1.heap.size w1 W) => refIs14_any _ L1 W (HTAB.out.below (chain BW.out g)) (RK.out.below g (Nat.le_refl _)) (RS.out.below g (Nat.le_refl _)) SZ.out LN.out
  have RD := Lib.hid (fun W (g : Below w1.heap.size w1 W) => refDrop14_any _ L1 a W (RK.out.below g (Nat.le_refl _)) (by omega))
  have IX := Lib.hid (fun W (g : Below w1.heap.size w1 W) q => refAt14_any _ L1 q W (RK.out.below g (Nat.le_refl _)) (by omega))
  have AW := Lib.hid (fun W (g : Below w1.heap.size w1 W) => awake14_any W (HTAB.out.below (chain BW.out g)))
  cases hi : isSn L1 with
  | false =>
    have HI := Lib.hid hi
    rw [hi] at IS0
    have IS := Lib.hid IS0
    have HA := Lib.hid (at14_no (q := a) hi)
    clear IS0 hi
    go_wp2_with fail
    refine (DR.out _ hS).mono ?_
    rintro e w2 ⟨hd, -, g⟩
    obtain rfl := hd HI.out
    have hS := chain hS g
    clear g hd
    go_wp2_with fail
    refine (CH.out _ hS).mono ?_
    rintro e w3 ⟨hc, -, -, g⟩
    obtain rfl := hc (by rw [HA.out.1]; decide)
    have hS := chain hS g
    rw [HA.out.1]
    clear g hc
    go_wp2_with fail
    refine (IS.out _ hS).mono ?_
    rintro e w4 ⟨rfl, g⟩
    have hS := chain hS g
    clear g
    go_wp2_with fail
    refine (AW.out _ hS).mono ?_
    rintro e wz ⟨rfl, g⟩
    have hS := chain hS g
    clear g
    go_wp2_with fail
    go_ret
    exact ⟨rfl, chain BW.out hS⟩
  | true =>
    have HI := Lib.hid hi
    rw [hi] at IS0
    have IS := Lib.hid IS0
    obtain ⟨DL, hDL⟩ : ∃ D, D = L1.drop (dropN L1 a) := ⟨_, rfl⟩
    have HDL := Lib.hid hDL
    have HDF := Lib.hid (show dropF L1 a L1.length = DL by rw [hDL]; exact dropF_eq hi)
    have HDS := Lib.hid (show ∀ W, RdSn W L1 → RdSn W DL by rw [hDL]; exact fun W h => h.drop _)
    have HDN := Lib.hid (show LenSn DL by rw [hDL]; exact LN.out.drop _)
    have HD8 := Lib.hid (show DL.length ≤ 100 by rw [hDL]; simp; omega)
    clear hDL
    have SQ := Lib.hid (isSn_srt hi)
    have MAYS := Lib.hid (fun x (hx : x ∈ L1) => (isSn_may hi hx).1)
    obtain ⟨fa1, fa2⟩ := ixQ_of (q := a) hi
    obtain ⟨fb1, fb2⟩ := ixQ_of (q := b) hi
    clear IS0 hi
    by_cases ha : atE L1 a = 0
    · obtain ⟨i, hi, hiq, hix⟩ := fa1 ha
      by_cases hb : atE L1 b = 0
      · obtain ⟨j, hj, hjq, hjx⟩ := fb1 hb
        have HAH := Lib.hid ha
        have HBH := Lib.hid hb
        have HIX := Lib.hid hix
        have HJX := Lib.hid hjx
        have HIQ := Lib.hid hiq
        have HJQ := Lib.hid hjq
        have d0 : decide ((i : Int) < 0) = false := decide_eq_false (by omega)
        have d1 : decide ((j : Int) < 0) = false := decide_eq_false (by omega)
        obtain ⟨x, hx⟩ : ∃ x, x = L1[i]'hi := ⟨_, rfl⟩
        obtain ⟨y, hy⟩ : ∃ y, y = L1[j]'hj := ⟨_, rfl⟩
        have hxm : x ∈ L1 := by rw [hx]; exact List.getElem_mem _
        have hym : y ∈ L1 := by rw [hy]; exact List.getElem_mem _
        have HX := Lib.hid hx
        have HY := Lib.hid hy
        obtain ⟨UL, hUL⟩ : ∃ U, U = unlL x.s.lv y.s.lv x.s.vs y.s.vs 16 := ⟨_, rfl⟩
        have HUL := Lib.hid hUL
        have UL16 : UL.length ≤ 16 := by rw [hUL]; exact unlL_len _ _ _ _ _
        have ox := Lib.hid ((RS.out x hxm).tr.one)
        have oy := Lib.hid ((RS.out y hym).tr.one)
        have fi : (i : Int) < L1.length := by omega
        have fj : (j : Int) < L1.length := by omega
        have wi : IntKind.i64.wrap (i : Int) = (i : Int) := by rw [IntKind.wrap_i64]; omega
        have wj : IntKind.i64.wrap (j : Int) = (j : Int) := by rw [IntKind.wrap_i64]; omega
        clear fa1 fa2 fb1 fb2 ha hb hix hjx hiq hjq hx hy hUL
        go_wp2_with fail
        refine (DR.out _ hS).mono ?_
        rintro e w2 ⟨-, hd, g⟩
        obtain ⟨v2, rfl, own2⟩ := hd HI.out
        rw [← HDL.out] at own2
        obtain ⟨a2, n2, c2, rfl⟩ := own_slice own2
        obtain rfl := own_count own2
        have hS := chain hS g
        have RK2 := Lib.hid (own_rdk snC_len own2)
        clear g hd own2
        have h2 := Below.refl w2.heap.size w2
        go_wp2_with fail
        refine (CH.out _ hS).mono ?_
        rintro e w3 ⟨hc1, hc2, hc3, g⟩
        obtain ⟨i', j', hi', hj', hi'q, hj'q, v3, rfl, own3⟩ := hc3 HAH.out HBH.out
        obtain rfl := q_inj SQ.out hi hi' (HIQ.out.trans hi'q.symm)
        obtain rfl := q_inj SQ.out hj hj' (HJQ.out.trans hj'q.symm)
        rw [← HX.out, ← HY.out, ← HUL.out] at own3
        have hS := chain hS g
        have h2 := chain h2 g
        clear g hc1 hc2 hc3 hi'q hj'q
        obtain ⟨a3, n3, c3, rfl⟩ := own_slice own3
        obtain rfl := own_count own3
        go_wp2_with fail
        refine (IS.out _ hS).mono ?_
        rintro e w4 ⟨rfl, g⟩
        have hS := chain hS g
        have h2 := chain h2 g
        have own3 := own_keep own3 g
        clear g
        go_wp2_with fail
        refine (RD.out _ hS).mono ?_
        rintro e w5 ⟨v5, rfl, own5, g⟩
        rw [HDF.out] at own5
        obtain ⟨a5, n5, c5, rfl⟩ := own_slice own5
        obtain rfl := own_count own5
        have hS := chain hS g
        have h2 := chain h2 g
        have own3 := own_keep own3 g
        clear g
        have SM := Lib.hid (same14_yes _ _ DL DL w5 (RK2.out.below h2 (Nat.le_refl _)) (own_rdk snC_len own5) (HDS.out _ (RS.out.below hS (Nat.le_refl _))) (HDS.out _ (RS.out.below hS (Nat.le_refl _))) HDN.out (eqSn_refl _) HD8.out)
        clear own5
        go_wp2_with fail
        refine SM.out.mono ?_
        rintro e w6 ⟨rfl, g⟩
        have hS := chain hS g
        have own3 := own_keep own3 g
        clear g SM
        go_wp2_with fail
        refine (IX.out _ hS a).mono ?_
        rintro e w7 ⟨rfl, rfl⟩
        rw [HIX.out]
        go_wp2_with fail
        refine (IX.out _ hS b).mono ?_
        rintro e w8 ⟨rfl, rfl⟩
        rw [HJX.out]
        have OWNC := Lib.hid own3
        obtain ⟨wL, hwL⟩ : ∃ W, W = w6 := ⟨_, rfl⟩
        subst hwL
        have HSL := Lib.hid hS
        clear own3 h2 hS
        go_wp2_with fail
        go_loopw [13, 14] (fun z o wr => ∃ k n : Nat, k ≤ 16 ∧ o = .int .i64 (k : Int) ∧ z = .int .i64 (n : Int) ∧ Hid (n = (unlL x.s.lv y.s.lv x.s.vs y.s.vs k).length) ∧ Below wL.heap.size wL wr) (fun _ o _ => 200 - (intOf o).toNat)
        case atStart => exact ⟨0, 0, by omega, rfl, rfl, Lib.hid rfl, Below.refl _ _⟩
        case round =>
          obtain ⟨k, n, hk, rfl, rfl, HN, hL⟩ := hrel
          have hS := HSL.out.trans (hL.mono HSL.out.size)
          by_cases hlt : k < 16
          · have hlti : (k : Int) < 16 := by omega
            obtain ⟨b, off, rfl, hb, hci0⟩ := RdK.cell snC_len (RK.out.below hS (Nat.le_refl _)) i hi
            obtain ⟨b2, off2, hbo, -, hcj0⟩ := RdK.cell snC_len (RK.out.below hS (Nat.le_refl _)) j hj
            cases hbo
            rw [← HX.out] at hci0
            rw [← HY.out] at hcj0
            have hci : ∀ i9, i9 < 36 → wr.cell? ⟨b, off + i * 36 + i9, none⟩ = (snC x)[i9]? := fun i9 hi9 => by rw [Nat.add_assoc]; exact hci0 i9 hi9
            have hcj : ∀ i9, i9 < 36 → wr.cell? ⟨b, off + j * 36 + i9, none⟩ = (snC y)[i9]? := fun i9 hi9 => by rw [Nat.add_assoc]; exact hcj0 i9 hi9
            obtain ⟨u, hu, hru⟩ := (RS.out x hxm).tr.leaf k hlt
            obtain ⟨u2, hu2, hru2⟩ := (RS.out y hym).tr.leaf k hlt
            obtain ⟨A9, hA9⟩ : ∃ z, z = x.s.vs k := ⟨_, rfl⟩
            obtain ⟨B9, hB9⟩ : ∃ z, z = y.s.vs k := ⟨_, rfl⟩
            have VX0 := (RS.out x hxm).tr.ver k hlt
            have VY0 := (RS.out y hym).tr.ver k hlt
            rw [← hA9] at VX0
            rw [← hB9] at VY0
            have VX := Lib.hid VX0
            have HU := Lib.hid hu
            have HU2 := Lib.hid hu2
            have SG0 := fun W (g : Below wL.heap.size wL W) => refSameG_any u u2 (x.s.lv k) (y.s.lv k) W (hru.below (HSL.out.trans (g.mono HSL.out.size)) (Nat.le_refl _)) (hru2.below (HSL.out.trans (g.mono HSL.out.size)) (Nat.le_refl _)) (LN.out x hxm k hlt) (LN.out y hym k hlt)
            have HS9 := unlL_succ x.s.lv y.s.lv x.s.vs y.s.vs k
            clear hci0 hcj0 hu hu2 hru hru2 VX0
            by_cases hv : A9 = B9
            · have tv : (x.s.vs k != y.s.vs k) = false := by rw [← hA9, ← hB9, hv]; simp
              rw [← hv] at VY0
              have VY := Lib.hid VY0
              have TV := Lib.hid tv
              clear tv VY0 hA9 hB9
              cases hls : lsEq (x.s.lv k) (y.s.lv k) with
              | true =>
                rw [hls] at SG0
                have SG := Lib.hid SG0
                have HNX := Lib.hid (show Hid (n = (unlL x.s.lv y.s.lv x.s.vs y.s.vs (k + 1)).length) from Lib.hid (by rw [HS9, if_neg (by unfold unlB; rw [TV.out, hls]; simp), List.append_nil]; exact HN.out))
                clear SG0 HS9 hls hv
                go_wp2_with fail
                obtain ⟨wd, hwd⟩ : ∃ W, W = wr.drew := ⟨_, rfl⟩
                have hSd := Below.drew hS
                have hLd := Below.drew hL
                have hci : ∀ i9, i9 < 36 → wr.drew.cell? ⟨b, off + i * 36 + i9, none⟩ = (snC x)[i9]? := hci
                have hcj : ∀ i9, i9 < 36 → wr.drew.cell? ⟨b, off + j * 36 + i9, none⟩ = (snC y)[i9]? := hcj
                have hb : b < wr.drew.heap.size := hb
                rw [← hwd] at hSd hLd hci hcj hb
                obtain ⟨z1, z2, -, -⟩ := two_allocs wd (.cells zT 26) (.cells zT 26)
                have qz1 := Lib.hid z1
                have qz2 := Lib.hid z2
                clear z1 z2 hS hL
                refine gs_start (S := (fun w' => Below wd.heap.size wd w')) (by kernel_rfl) ?_
                rw [← hwd]
                clear hwd
                have hZ := Below.refl wd.heap.size wd
                refine gs_take (i := 0) (d := (some 90)) (v := ?_) rfl rfl (by kernel_rfl) (fun _ _ _ h => h) (by rfl) hZ (fun w' hb' => ?_) ?_
                rotate_left
                · (try go_simp); (try with_reducible rfl)
                try simp only [Act.put, List.setIfInBounds_toArray, List.set_cons_zero, List.set_cons_succ]
                refine gs_take (i := 1) (d := (some 91)) (v := ?_) rfl rfl (by kernel_rfl) (fun _ _ _ h => h) (by rfl) hZ (fun w' hb' => ?_) ?_
                rotate_left
                · (try go_simp); (try with_reducible rfl)
                try simp only [Act.put, List.setIfInBounds_toArray, List.set_cons_zero, List.set_cons_succ]
                refine gs_take (i := 2) (d := (some 92)) (v := ?_) rfl rfl (by kernel_rfl) (fun _ _ _ h => h) (by rfl) hZ (fun w' hb' => ?_) ?_
                rotate_left
                · (try go_simp); (try with_reducible rfl)
                try simp only [Act.put, List.setIfInBounds_toArray, List.set_cons_zero, List.set_cons_succ]
                refine gs_take (i := 3) (d := (some 93)) (v := ?_) rfl rfl (by kernel_rfl) (fun _ _ _ h => h) (by rfl) hZ (fun w' hb' => ?_) ?_
                rotate_left
                · (try go_simp); (try with_reducible rfl)
                try simp only [Act.put, List.setIfInBounds_toArray, List.set_cons_zero, List.set_cons_succ]
                refine gs_take (i := 4) (d := (some 94)) (v := ?_) rfl rfl (by kernel_rfl) (fun _ _ _ h => h) (by rfl) hZ (fun w' hb' => ?_) ?_
                rotate_left
                · (try go_simp); (try with_reducible rfl)
                try simp only [Act.put, List.setIfInBounds_toArray, List.set_cons_zero, List.set_cons_succ]
                refine gs_take (i := 5) (d := (some 95)) (v := ?_) rfl rfl (by kernel_rfl) (fun _ _ _ h => h) (by rfl) hZ (fun w' hb' => ?_) ?_
                rotate_left
                · (refine load_partO_op _ _ (.tmp 94) ?_ ?_ (sn_trunk (fun i9 hi9 => (hb'.cell (p := ⟨b, off + i * 36 + i9, none⟩) hb).trans (hci i9 hi9))) Tryd.underlying26 ?_ (tC_infoA (snA_size x)) <;> rfl); (try go_simp); (try with_reducible rfl)
                try simp only [Act.put, List.setIfInBounds_toArray, List.set_cons_zero, List.set_cons_succ]
                refine gs_take (i := 6) (d := (some 96)) (v := ?_) rfl rfl (by kernel_rfl) (fun _ _ _ h => h) (by rfl) hZ (fun w' hb' => ?_) ?_
                rotate_left
                · (try go_simp); (try with_reducible rfl)
                try simp only [Act.put, List.setIfInBounds_toArray, List.set_cons_zero, List.set_cons_succ]
                refine gs_take (i := 7) (d := (some 97)) (v := ?_) rfl rfl (by kernel_rfl) (fun _ _ _ h => h) (by rfl) hZ (fun w' hb' => ?_) ?_
                rotate_left
                · (try go_simp); (try with_reducible rfl)
                try simp only [Act.put, List.setIfInBounds_toArray, List.set_cons_zero, List.set_cons_succ]
                refine gs_take (i := 8) (d := (some 98)) (v := ?_) rfl rfl (by kernel_rfl) (fun _ _ _ h => h) (by rfl) hZ (fun w' hb' => ?_) ?_
                rotate_left
                · (try go_simp); (try with_reducible rfl)
                try simp only [Act.put, List.setIfInBounds_toArray, List.set_cons_zero, List.set_cons_succ]
                refine gs_take (i := 9) (d := (some 99)) (v := ?_) rfl rfl (by kernel_rfl) (fun _ _ _ h => h) (by rfl) hZ (fun w' hb' => ?_) ?_
                rotate_left
                · (try go_simp); (try with_reducible rfl)
                try simp only [Act.put, List.setIfInBounds_toArray, List.set_cons_zero, List.set_cons_succ]
                refine gs_take (i := 10) (d := (some 100)) (v := ?_) rfl rfl (by kernel_rfl) (fun _ _ _ h => h) (by rfl) hZ (fun w' hb' => ?_) ?_
                rotate_left
                · (try go_simp); (try with_reducible rfl)
                try simp only [Act.put, List.setIfInBounds_toArray, List.set_cons_zero, List.set_cons_succ]
                refine gs_take (i := 11) (d := (some 101)) (v := ?_) rfl rfl (by kernel_rfl) (fun _ _ _ h => h) (by rfl) hZ (fun w' hb' => ?_) ?_
                rotate_left
                · (refine load_partO_op _ _ (.tmp 100) ?_ ?_ (sn_trunk (fun i9 hi9 => (hb'.cell (p := ⟨b, off + j * 36 + i9, none⟩) hb).trans (hcj i9 hi9))) Tryd.underlying26 ?_ (tC_infoA (snA_size y)) <;> rfl); (try go_simp); (try with_reducible rfl)
                try simp only [Act.put, List.setIfInBounds_toArray, List.set_cons_zero, List.set_cons_succ]
                refine gs_run2 (i := 12) (k := 13) rfl rfl (by kernel_rfl) (by rfl) (by rfl) (fun K hK => ?_) (fun K hK => ?_)
                · skip
                  go_simp
                  have hZ2 := hZ.alloc hZ.size (.cells zT 26)
                  refine hK _ _ ⟨hZ2, ?_⟩
                  clear hK K hZ
                  have hZ := hZ2
                  clear hZ2
                  try simp only [Act.put, List.setIfInBounds_toArray, List.set_cons_zero, List.set_cons_succ]
                  refine gs_run (i := 13) rfl (by kernel_rfl) (by rfl) (fun K hK => ?_)
                  go_simp
                  have hZ2 := hZ.alloc hZ.size (.cells zT 26)
                  refine hK _ _ ⟨hZ2, ?_⟩
                  clear hK K hZ
                  have hZ := hZ2
                  clear hZ2
                  try simp only [Act.put, List.setIfInBounds_toArray, List.set_cons_zero, List.set_cons_succ]
                  refine gs_run (i := 14) rfl (by kernel_rfl) (by rfl) (fun K hK => ?_)
                  refine wp_store_row 26 (.tmp 15) (.tmp 95) rfl _ (tC (snA x)) rfl rfl _ zT (show ((wd.alloc (.cells zT 26)).alloc (.cells zT 26)).heap[wd.heap.size]? = _ from qz1.out) (tC_infoA (snA_size x)) (by rw [tC_size (snA_size x)]; rfl) ox.out ?_
                  have hZ2 := below_row (g := wd.heap.size) hZ (by omega) (tC (snA x))
                  refine hK _ _ ⟨hZ2, ?_⟩
                  clear hK K hZ
                  have hZ := hZ2
                  clear hZ2
                  try simp only [Act.put, List.setIfInBounds_toArray, List.set_cons_zero, List.set_cons_succ]
                  refine gs_run (i := 15) rfl (by kernel_rfl) (by rfl) (fun K hK => ?_)
                  refine wp_store_row 26 (.tmp 16) (.tmp 101) rfl _ (tC (snA y)) rfl rfl _ zT (show (((wd.alloc (.cells zT 26)).alloc (.cells zT 26)).setRow (wd.heap.size) (tC (snA x))).heap[wd.heap.size + 1]? = _ by rw [setRow_other _ _ _ _ (by omega)]; exact qz2.out) (tC_infoA (snA_size y)) (by rw [tC_size (snA_size y)]; rfl) oy.out ?_
                  have hZ2 := below_row (g := wd.heap.size + 1) hZ (by omega) (tC (snA y))
                  refine hK _ _ ⟨hZ2, ?_⟩
                  clear hK K hZ
                  have hZ := hZ2
                  clear hZ2
                  try simp only [Act.put, List.setIfInBounds_toArray, List.set_cons_zero, List.set_cons_succ]
                  refine gs_done (by kernel_rfl) ?_
                  obtain ⟨W4, hW4⟩ : ∃ W, W = (((wd.alloc (.cells zT 26)).alloc (.cells zT 26)).setRow (wd.heap.size) (tC (snA x))).setRow (wd.heap.size + 1) (tC (snA y)) := ⟨_, rfl⟩
                  have q15 : W4.heap[wd.heap.size]? = some (.cells (tC (snA x)) 26 (0, 0)) := by rw [hW4, setRow_other _ _ _ _ (by omega)]; exact setRow_heap _ _ _ _ _ _ qz1.out
                  have q16 : W4.heap[wd.heap.size + 1]? = some (.cells (tC (snA y)) 26 (0, 0)) := by rw [hW4]; exact setRow_heap _ _ _ _ _ _ (show (((wd.alloc (.cells zT 26)).alloc (.cells zT 26)).setRow (wd.heap.size) (tC (snA x))).heap[wd.heap.size + 1]? = some (.cells zT 26 (0, 0)) by rw [setRow_other _ _ _ _ (by omega)]; exact qz2.out)
                  have gn : Below wd.heap.size wd W4 := by rw [hW4]; exact below_row (below_row (((Below.refl _ _).alloc (Nat.le_refl _) _).alloc (by simp) _) (by omega) _) (by omega) _
                  have hS := chain hSd gn
                  have hL := chain hLd gn
                  go_wp2_with fail
                  rw [← hW4]
                  clear hW4 gn hb hci hcj
                  refine g_start (by kernel_rfl) ?_
                  refine g_take (i := 0) (d := (some 102)) (v := ?_) rfl rfl (by kernel_rfl) (fun _ _ _ h => h) (by rfl) (fun w' hb' => ?_) ?_
                  rotate_left
                  · (try go_simp); (try with_reducible rfl)
                  try simp only [Act.put, List.setIfInBounds_toArray, List.set_cons_zero, List.set_cons_succ]
                  refine g_take (i := 1) (d := (some 103)) (v := ?_) rfl rfl (by kernel_rfl) (fun _ _ _ h => h) (by rfl) (fun w' hb' => ?_) ?_
                  rotate_left
                  · (try go_simp); (try with_reducible rfl)
                  try simp only [Act.put, List.setIfInBounds_toArray, List.set_cons_zero, List.set_cons_succ]
                  refine g_take (i := 2) (d := (some 104)) (v := ?_) rfl rfl (by kernel_rfl) (fun _ _ _ h => h) (by rfl) (fun w' hb' => ?_) ?_
                  rotate_left
                  · (try go_simp); (try with_reducible rfl)
                  try simp only [Act.put, List.setIfInBounds_toArray, List.set_cons_zero, List.set_cons_succ]
                  refine g_take (i := 3) (d := (some 105)) (v := ?_) rfl rfl (by kernel_rfl) (fun _ _ _ h => h) (by rfl) (fun w' hb' => ?_) ?_
                  rotate_left
                  · have zz := (hb'.cell (p := ⟨wd.heap.size, 16 + k, none⟩) (lt_of_block q15)).trans ((block_cell q15 (16 + k)).trans VX.out); have zy := zz; rw [Nat.add_comm 16 k] at zy; (try go_simp); (try with_reducible rfl)
                  try simp only [Act.put, List.setIfInBounds_toArray, List.set_cons_zero, List.set_cons_succ]
                  refine g_take (i := 4) (d := (some 106)) (v := ?_) rfl rfl (by kernel_rfl) (fun _ _ _ h => h) (by rfl) (fun w' hb' => ?_) ?_
                  rotate_left
                  · (try go_simp); (try with_reducible rfl)
                  try simp only [Act.put, List.setIfInBounds_toArray, List.set_cons_zero, List.set_cons_succ]
                  refine g_take (i := 5) (d := (some 107)) (v := ?_) rfl rfl (by kernel_rfl) (fun _ _ _ h => h) (by rfl) (fun w' hb' => ?_) ?_
                  rotate_left
                  · (try go_simp); (try with_reducible rfl)
                  try simp only [Act.put, List.setIfInBounds_toArray, List.set_cons_zero, List.set_cons_succ]
                  refine g_take (i := 6) (d := (some 108)) (v := ?_) rfl rfl (by kernel_rfl) (fun _ _ _ h => h) (by rfl) (fun w' hb' => ?_) ?_
                  rotate_left
                  · (try go_simp); (try with_reducible rfl)
                  try simp only [Act.put, List.setIfInBounds_toArray, List.set_cons_zero, List.set_cons_succ]
                  refine g_take (i := 7) (d := (some 109)) (v := ?_) rfl rfl (by kernel_rfl) (fun _ _ _ h => h) (by rfl) (fun w' hb' => ?_) ?_
                  rotate_left
                  · have zz := (hb'.cell (p := ⟨wd.heap.size + 1, 16 + k, none⟩) (lt_of_block q16)).trans ((block_cell q16 (16 + k)).trans VY.out); have zy := zz; rw [Nat.add_comm 16 k] at zy; (try go_simp); (try with_reducible rfl)
                  try simp only [Act.put, List.setIfInBounds_toArray, List.set_cons_zero, List.set_cons_succ]
                  refine g_take (i := 8) (d := (some 110)) (v := ?_) rfl rfl (by kernel_rfl) (fun _ _ _ h => h) (by rfl) (fun w' hb' => ?_) ?_
                  rotate_left
                  · (try go_simp); (try with_reducible rfl)
                  try simp only [Act.put, List.setIfInBounds_toArray, List.set_cons_zero, List.set_cons_succ]
                  refine g_take (i := 9) (d := (some 111)) (v := ?_) rfl rfl (by kernel_rfl) (fun _ _ _ h => h) (by rfl) (fun w' hb' => ?_) ?_
                  rotate_left
                  · (try go_simp); (try with_reducible rfl)
                  try simp only [Act.put, List.setIfInBounds_toArray, List.set_cons_zero, List.set_cons_succ]
                  refine g_take (i := 10) (d := (some 112)) (v := ?_) rfl rfl (by kernel_rfl) (fun _ _ _ h => h) (by rfl) (fun w' hb' => ?_) ?_
                  rotate_left
                  · (try go_simp); (try with_reducible rfl)
                  try simp only [Act.put, List.setIfInBounds_toArray, List.set_cons_zero, List.set_cons_succ]
                  refine g_take (i := 11) (d := (some 113)) (v := ?_) rfl rfl (by kernel_rfl) (fun _ _ _ h => h) (by rfl) (fun w' hb' => ?_) ?_
                  rotate_left
                  · (try go_simp); (try with_reducible rfl)
                  try simp only [Act.put, List.setIfInBounds_toArray, List.set_cons_zero, List.set_cons_succ]
                  refine g_take (i := 12) (d := (some 114)) (v := ?_) rfl rfl (by kernel_rfl) (fun _ _ _ h => h) (by rfl) (fun w' hb' => ?_) ?_
                  rotate_left
                  · (try go_simp); (try with_reducible rfl)
                  try simp only [Act.put, List.setIfInBounds_toArray, List.set_cons_zero, List.set_cons_succ]
                  refine g_take (i := 13) (d := (some 115)) (v := ?_) rfl rfl (by kernel_rfl) (fun _ _ _ h => h) (by rfl) (fun w' hb' => ?_) ?_
                  rotate_left
                  · have zz := (hb'.cell (p := ⟨wd.heap.size, k, none⟩) (lt_of_block q15)).trans ((block_cell q15 k).trans HU.out); (try go_simp); (try with_reducible rfl)
                  try simp only [Act.put, List.setIfInBounds_toArray, List.set_cons_zero, List.set_cons_succ]
                  refine g_take (i := 14) (d := (some 116)) (v := ?_) rfl rfl (by kernel_rfl) (fun _ _ _ h => h) (by rfl) (fun w' hb' => ?_) ?_
                  rotate_left
                  · (try go_simp); (try with_reducible rfl)
                  try simp only [Act.put, List.setIfInBounds_toArray, List.set_cons_zero, List.set_cons_succ]
                  refine g_take (i := 15) (d := (some 117)) (v := ?_) rfl rfl (by kernel_rfl) (fun _ _ _ h => h) (by rfl) (fun w' hb' => ?_) ?_
                  rotate_left
                  · (try go_simp); (try with_reducible rfl)
                  try simp only [Act.put, List.setIfInBounds_toArray, List.set_cons_zero, List.set_cons_succ]
                  refine g_take (i := 16) (d := (some 118)) (v := ?_) rfl rfl (by kernel_rfl) (fun _ _ _ h => h) (by rfl) (fun w' hb' => ?_) ?_
                  rotate_left
                  · (try go_simp); (try with_reducible rfl)
                  try simp only [Act.put, List.setIfInBounds_toArray, List.set_cons_zero, List.set_cons_succ]
                  refine g_take (i := 17) (d := (some 119)) (v := ?_) rfl rfl (by kernel_rfl) (fun _ _ _ h => h) (by rfl) (fun w' hb' => ?_) ?_
                  rotate_left
                  · have zz := (hb'.cell (p := ⟨wd.heap.size + 1, k, none⟩) (lt_of_block q16)).trans ((block_cell q16 k).trans HU2.out); (try go_simp); (try with_reducible rfl)
                  try simp only [Act.put, List.setIfInBounds_toArray, List.set_cons_zero, List.set_cons_succ]
                  refine g_run (i := 18) rfl (by kernel_rfl) (by rfl) (fun K hK => ?_)
                  go_simp; refine (SG.out _ (Below.drew hL)).mono ?_; rintro e uu ⟨rfl, nd, hw2⟩; have gg : Below W4.drew.heap.size W4.drew uu := (by rw [hw2]; exact below_drewN (Below.refl _ _)); clear hw2; have hS := chain (Below.drew hS) gg; have hL := chain (Below.drew hL) gg; refine hK _ _ ⟨gg, ?_⟩; clear hK K gg
                  try simp only [Act.put, List.setIfInBounds_toArray, List.set_cons_zero, List.set_cons_succ]
                  refine g_take (i := 19) (d := (some 121)) (v := ?_) rfl rfl (by kernel_rfl) (fun _ _ _ h => h) (by rfl) (fun w' hb' => ?_) ?_
                  rotate_left
                  · (try go_simp); (try with_reducible rfl)
                  try simp only [Act.put, List.setIfInBounds_toArray, List.set_cons_zero, List.set_cons_succ]
                  refine g_take (i := 20) (d := (some 122)) (v := ?_) rfl rfl (by kernel_rfl) (fun _ _ _ h => h) (by rfl) (fun w' hb' => ?_) ?_
                  rotate_left
                  · (try go_simp); (try with_reducible rfl)
                  try simp only [Act.put, List.setIfInBounds_toArray, List.set_cons_zero, List.set_cons_succ]
                  refine g_done (by kernel_rfl) ?_
                  go_wp2_with fail
                  exact ⟨⟨k + 1, n, by omega, by push_cast; rfl, rfl, HNX.out, hL⟩, by simp [intOf]; omega⟩
                · skip
                  go_simp
                  have hZ2 := hZ.alloc hZ.size (.cells zT 26)
                  refine hK _ _ ⟨hZ2, ?_⟩
                  clear hK K hZ
                  have hZ := hZ2
                  clear hZ2
                  try simp only [Act.put, List.setIfInBounds_toArray, List.set_cons_zero, List.set_cons_succ]
                  refine gs_run (i := 12) rfl (by kernel_rfl) (by rfl) (fun K hK => ?_)
                  go_simp
                  have hZ2 := hZ.alloc hZ.size (.cells zT 26)
                  refine hK _ _ ⟨hZ2, ?_⟩
                  clear hK K hZ
                  have hZ := hZ2
                  clear hZ2
                  try simp only [Act.put, List.setIfInBounds_toArray, List.set_cons_zero, List.set_cons_succ]
                  refine gs_run (i := 14) rfl (by kernel_rfl) (by rfl) (fun K hK => ?_)
                  refine wp_store_row 26 (.tmp 15) (.tmp 95) rfl _ (tC (snA x)) rfl rfl _ zT (show ((wd.alloc (.cells zT 26)).alloc (.cells zT 26)).heap[wd.heap.size + 1]? = _ from qz2.out) (tC_infoA (snA_size x)) (by rw [tC_size (snA_size x)]; rfl) ox.out ?_
                  have hZ2 := below_row (g := wd.heap.size + 1) hZ (by omega) (tC (snA x))
                  refine hK _ _ ⟨hZ2, ?_⟩
                  clear hK K hZ
                  have hZ := hZ2
                  clear hZ2
                  try simp only [Act.put, List.setIfInBounds_toArray, List.set_cons_zero, List.set_cons_succ]
                  refine gs_run (i := 15) rfl (by kernel_rfl) (by rfl) (fun K hK => ?_)
                  refine wp_store_row 26 (.tmp 16) (.tmp 101) rfl _ (tC (snA y)) rfl rfl _ zT (show (((wd.alloc (.cells zT 26)).alloc (.cells zT 26)).setRow (wd.heap.size + 1) (tC (snA x))).heap[wd.heap.size]? = _ by rw [setRow_other _ _ _ _ (by omega)]; exact qz1.out) (tC_infoA (snA_size y)) (by rw [tC_size (snA_size y)]; rfl) oy.out ?_
                  have hZ2 := below_row (g := wd.heap.size) hZ (by omega) (tC (snA y))
                  refine hK _ _ ⟨hZ2, ?_⟩
                  clear hK K hZ
                  have hZ := hZ2
                  clear hZ2
                  try simp only [Act.put, List.setIfInBounds_toArray, List.set_cons_zero, List.set_cons_succ]
                  refine gs_done (by kernel_rfl) ?_
                  obtain ⟨W4, hW4⟩ : ∃ W, W = (((wd.alloc (.cells zT 26)).alloc (.cells zT 26)).setRow (wd.heap.size + 1) (tC (snA x))).setRow (wd.heap.size) (tC (snA y)) := ⟨_, rfl⟩
                  have q15 : W4.heap[wd.heap.size + 1]? = some (.cells (tC (snA x)) 26 (0, 0)) := by rw [hW4, setRow_other _ _ _ _ (by omega)]; exact setRow_heap _ _ _ _ _ _ qz2.out
                  have q16 : W4.heap[wd.heap.size]? = some (.cells (tC (snA y)) 26 (0, 0)) := by rw [hW4]; exact setRow_heap _ _ _ _ _ _ (show (((wd.alloc (.cells zT 26)).alloc (.cells zT 26)).setRow (wd.heap.size + 1) (tC (snA x))).heap[wd.heap.size]? = some (.cells zT 26 (0, 0)) by rw [setRow_other _ _ _ _ (by omega)]; exact qz1.out)
                  have gn : Below wd.heap.size wd W4 := by rw [hW4]; exact below_row (below_row (((Below.refl _ _).alloc (Nat.le_refl _) _).alloc (by simp) _) (by omega) _) (by omega) _
                  have hS := chain hSd gn
                  have hL := chain hLd gn
                  go_wp2_with fail
                  rw [← hW4]
                  clear hW4 gn hb hci hcj
                  refine g_start (by kernel_rfl) ?_
                  refine g_take (i := 0) (d := (some 102)) (v := ?_) rfl rfl (by kernel_rfl) (fun _ _ _ h => h) (by rfl) (fun w' hb' => ?_) ?_
                  rotate_left
                  · (try go_simp); (try with_reducible rfl)
                  try simp only [Act.put, List.setIfInBounds_toArray, List.set_cons_zero, List.set_cons_succ]
                  refine g_take (i := 1) (d := (some 103)) (v := ?_) rfl rfl (by kernel_rfl) (fun _ _ _ h => h) (by rfl) (fun w' hb' => ?_) ?_
                  rotate_left
                  · (try go_simp); (try with_reducible rfl)
                  try simp only [Act.put, List.setIfInBounds_toArray, List.set_cons_zero, List.set_cons_succ]
                  refine g_take (i := 2) (d := (some 104)) (v := ?_) rfl rfl (by kernel_rfl) (fun _ _ _ h => h) (by rfl) (fun w' hb' => ?_) ?_
                  rotate_left
                  · (try go_simp); (try with_reducible rfl)
                  try simp only [Act.put, List.setIfInBounds_toArray, List.set_cons_zero, List.set_cons_succ]
                  refine g_take (i := 3) (d := (some 105)) (v := ?_) rfl rfl (by kernel_rfl) (fun _ _ _ h => h) (by rfl) (fun w' hb' => ?_) ?_
                  rotate_left
                  · have zz := (hb'.cell (p := ⟨wd.heap.size + 1, 16 + k, none⟩) (lt_of_block q15)).trans ((block_cell q15 (16 + k)).trans VX.out); have zy := zz; rw [Nat.add_comm 16 k] at zy; (try go_simp); (try with_reducible rfl)
                  try simp only [Act.put, List.setIfInBounds_toArray, List.set_cons_zero, List.set_cons_succ]
                  refine g_take (i := 4) (d := (some 106)) (v := ?_) rfl rfl (by kernel_rfl) (fun _ _ _ h => h) (by rfl) (fun w' hb' => ?_) ?_
                  rotate_left
                  · (try go_simp); (try with_reducible rfl)
                  try simp only [Act.put, List.setIfInBounds_toArray, List.set_cons_zero, List.set_cons_succ]
                  refine g_take (i := 5) (d := (some 107)) (v := ?_) rfl rfl (by kernel_rfl) (fun _ _ _ h => h) (by rfl) (fun w' hb' => ?_) ?_
                  rotate_left
                  · (try go_simp); (try with_reducible rfl)
                  try simp only [Act.put, List.setIfInBounds_toArray, List.set_cons_zero, List.set_cons_succ]
                  refine g_take (i := 6) (d := (some 108)) (v := ?_) rfl rfl (by kernel_rfl) (fun _ _ _ h => h) (by rfl) (fun w' hb' => ?_) ?_
                  rotate_left
                  · (try go_simp); (try with_reducible rfl)
                  try simp only [Act.put, List.setIfInBounds_toArray, List.set_cons_zero, List.set_cons_succ]
                  refine g_take (i := 7) (d := (some 109)) (v := ?_) rfl rfl (by kernel_rfl) (fun _ _ _ h => h) (by rfl) (fun w' hb' => ?_) ?_
                  rotate_left
                  · have zz := (hb'.cell (p := ⟨wd.heap.size, 16 + k, none⟩) (lt_of_block q16)).trans ((block_cell q16 (16 + k)).trans VY.out); have zy := zz; rw [Nat.add_comm 16 k] at zy; (try go_simp); (try with_reducible rfl)
                  try simp only [Act.put, List.setIfInBounds_toArray, List.set_cons_zero, List.set_cons_succ]
                  refine g_take (i := 8) (d := (some 110)) (v := ?_) rfl rfl (by kernel_rfl) (fun _ _ _ h => h) (by rfl) (fun w' hb' => ?_) ?_
                  rotate_left
                  · (try go_simp); (try with_reducible rfl)
                  try simp only [Act.put, List.setIfInBounds_toArray, List.set_cons_zero, List.set_cons_succ]
                  refine g_take (i := 9) (d := (some 111)) (v := ?_) rfl rfl (by kernel_rfl) (fun _ _ _ h => h) (by rfl) (fun w' hb' => ?_) ?_
                  rotate_left
                  · (try go_simp); (try with_reducible rfl)
                  try simp only [Act.put, List.setIfInBounds_toArray, List.set_cons_zero, List.set_cons_succ]
                  refine g_take (i := 10) (d := (some 112)) (v := ?_) rfl rfl (by kernel_rfl) (fun _ _ _ h => h) (by rfl) (fun w' hb' => ?_) ?_
                  rotate_left
                  · (try go_simp); (try with_reducible rfl)
                  try simp only [Act.put, List.setIfInBounds_toArray, List.set_cons_zero, List.set_cons_succ]
                  refine g_take (i := 11) (d := (some 113)) (v := ?_) rfl rfl (by kernel_rfl) (fun _ _ _ h => h) (by rfl) (fun w' hb' => ?_) ?_
                  rotate_left
                  · (try go_simp); (try with_reducible rfl)
                  try simp only [Act.put, List.setIfInBounds_toArray, List.set_cons_zero, List.set_cons_succ]
                  refine g_take (i := 12) (d := (some 114)) (v := ?_) rfl rfl (by kernel_rfl) (fun _ _ _ h => h) (by rfl) (fun w' hb' => ?_) ?_
                  rotate_left
                  · (try go_simp); (try with_reducible rfl)
                  try simp only [Act.put, List.setIfInBounds_toArray, List.set_cons_zero, List.set_cons_succ]
                  refine g_take (i := 13) (d := (some 115)) (v := ?_) rfl rfl (by kernel_rfl) (fun _ _ _ h => h) (by rfl) (fun w' hb' => ?_) ?_
                  rotate_left
                  · have zz := (hb'.cell (p := ⟨wd.heap.size + 1, k, none⟩) (lt_of_block q15)).trans ((block_cell q15 k).trans HU.out); (try go_simp); (try with_reducible rfl)
                  try simp only [Act.put, List.setIfInBounds_toArray, List.set_cons_zero, List.set_cons_succ]
                  refine g_take (i := 14) (d := (some 116)) (v := ?_) rfl rfl (by kernel_rfl) (fun _ _ _ h => h) (by rfl) (fun w' hb' => ?_) ?_
                  rotate_left
                  · (try go_simp); (try with_reducible rfl)
                  try simp only [Act.put, List.setIfInBounds_toArray, List.set_cons_zero, List.set_cons_succ]
                  refine g_take (i := 15) (d := (some 117)) (v := ?_) rfl rfl (by kernel_rfl) (fun _ _ _ h => h) (by rfl) (fun w' hb' => ?_) ?_
                  rotate_left
                  · (try go_simp); (try with_reducible rfl)
                  try simp only [Act.put, List.setIfInBounds_toArray, List.set_cons_zero, List.set_cons_succ]
                  refine g_take (i := 16) (d := (some 118)) (v := ?_) rfl rfl (by kernel_rfl) (fun _ _ _ h => h) (by rfl) (fun w' hb' => ?_) ?_
                  rotate_left
                  · (try go_simp); (try with_reducible rfl)
                  try simp only [Act.put, List.setIfInBounds_toArray, List.set_cons_zero, List.set_cons_succ]
                  refine g_take (i := 17) (d := (some 119)) (v := ?_) rfl rfl (by kernel_rfl) (fun _ _ _ h => h) (by rfl) (fun w' hb' => ?_) ?_
                  rotate_left
                  · have zz := (hb'.cell (p := ⟨wd.heap.size, k, none⟩) (lt_of_block q16)).trans ((block_cell q16 k).trans HU2.out); (try go_simp); (try with_reducible rfl)
                  try simp only [Act.put, List.setIfInBounds_toArray, List.set_cons_zero, List.set_cons_succ]
                  refine g_run (i := 18) rfl (by kernel_rfl) (by rfl) (fun K hK => ?_)
                  go_simp; refine (SG.out _ (Below.drew hL)).mono ?_; rintro e uu ⟨rfl, nd, hw2⟩; have gg : Below W4.drew.heap.size W4.drew uu := (by rw [hw2]; exact below_drewN (Below.refl _ _)); clear hw2; have hS := chain (Below.drew hS) gg; have hL := chain (Below.drew hL) gg; refine hK _ _ ⟨gg, ?_⟩; clear hK K gg
                  try simp only [Act.put, List.setIfInBounds_toArray, List.set_cons_zero, List.set_cons_succ]
                  refine g_take (i := 19) (d := (some 121)) (v := ?_) rfl rfl (by kernel_rfl) (fun _ _ _ h => h) (by rfl) (fun w' hb' => ?_) ?_
                  rotate_left
                  · (try go_simp); (try with_reducible rfl)
                  try simp only [Act.put, List.setIfInBounds_toArray, List.set_cons_zero, List.set_cons_succ]
                  refine g_take (i := 20) (d := (some 122)) (v := ?_) rfl rfl (by kernel_rfl) (fun _ _ _ h => h) (by rfl) (fun w' hb' => ?_) ?_
                  rotate_left
                  · (try go_simp); (try with_reducible rfl)
                  try simp only [Act.put, List.setIfInBounds_toArray, List.set_cons_zero, List.set_cons_succ]
                  refine g_done (by kernel_rfl) ?_
                  go_wp2_with fail
                  exact ⟨⟨k + 1, n, by omega, by push_cast; rfl, rfl, HNX.out, hL⟩, by simp [intOf]; omega⟩
        
              | false =>
                rw [hls] at SG0
                have SG := Lib.hid SG0
                have hU : unlB x.s.lv y.s.lv x.s.vs y.s.vs k = true := by unfold unlB; rw [TV.out, hls]; rfl
                have HNX := Lib.hid (show Hid (n + 1 = (unlL x.s.lv y.s.lv x.s.vs y.s.vs (k + 1)).length) from Lib.hid (by rw [HS9, if_pos hU, List.length_append, ← HN.out]; rfl))
                have HLN := Lib.hid (show n < UL.length by rw [HUL.out, HN.out]; exact (unl_at hlt hU).1)
                have HUK := Lib.hid (show ivN (UL[n]'HLN.out) = .int .i64 (k : Int) by rw [ul_at HUL.out HN.out hlt hU HLN.out]; rfl)
                clear SG0 HS9 hls hv hU
                go_wp2_with fail
                obtain ⟨wd, hwd⟩ : ∃ W, W = wr.drew := ⟨_, rfl⟩
                have hSd := Below.drew hS
                have hLd := Below.drew hL
                have hci : ∀ i9, i9 < 36 → wr.drew.cell? ⟨b, off + i * 36 + i9, none⟩ = (snC x)[i9]? := hci
                have hcj : ∀ i9, i9 < 36 → wr.drew.cell? ⟨b, off + j * 36 + i9, none⟩ = (snC y)[i9]? := hcj
                have hb : b < wr.drew.heap.size := hb
                rw [← hwd] at hSd hLd hci hcj hb
                obtain ⟨z1, z2, -, -⟩ := two_allocs wd (.cells zT 26) (.cells zT 26)
                have qz1 := Lib.hid z1
                have qz2 := Lib.hid z2
                clear z1 z2 hS hL
                refine gs_start (S := (fun w' => Below wd.heap.size wd w')) (by kernel_rfl) ?_
                rw [← hwd]
                clear hwd
                have hZ := Below.refl wd.heap.size wd
                refine gs_take (i := 0) (d := (some 90)) (v := ?_) rfl rfl (by kernel_rfl) (fun _ _ _ h => h) (by rfl) hZ (fun w' hb' => ?_) ?_
                rotate_left
                · (try go_simp); (try with_reducible rfl)
                try simp only [Act.put, List.setIfInBounds_toArray, List.set_cons_zero, List.set_cons_succ]
                refine gs_take (i := 1) (d := (some 91)) (v := ?_) rfl rfl (by kernel_rfl) (fun _ _ _ h => h) (by rfl) hZ (fun w' hb' => ?_) ?_
                rotate_left
                · (try go_simp); (try with_reducible rfl)
                try simp only [Act.put, List.setIfInBounds_toArray, List.set_cons_zero, List.set_cons_succ]
                refine gs_take (i := 2) (d := (some 92)) (v := ?_) rfl rfl (by kernel_rfl) (fun _ _ _ h => h) (by rfl) hZ (fun w' hb' => ?_) ?_
                rotate_left
                · (try go_simp); (try with_reducible rfl)
                try simp only [Act.put, List.setIfInBounds_toArray, List.set_cons_zero, List.set_cons_succ]
                refine gs_take (i := 3) (d := (some 93)) (v := ?_) rfl rfl (by kernel_rfl) (fun _ _ _ h => h) (by rfl) hZ (fun w' hb' => ?_) ?_
                rotate_left
                · (try go_simp); (try with_reducible rfl)
                try simp only [Act.put, List.setIfInBounds_toArray, List.set_cons_zero, List.set_cons_succ]
                refine gs_take (i := 4) (d := (some 94)) (v := ?_) rfl rfl (by kernel_rfl) (fun _ _ _ h => h) (by rfl) hZ (fun w' hb' => ?_) ?_
                rotate_left
                · (try go_simp); (try with_reducible rfl)
                try simp only [Act.put, List.setIfInBounds_toArray, List.set_cons_zero, List.set_cons_succ]
                refine gs_take (i := 5) (d := (some 95)) (v := ?_) rfl rfl (by kernel_rfl) (fun _ _ _ h => h) (by rfl) hZ (fun w' hb' => ?_) ?_
                rotate_left
                · (refine load_partO_op _ _ (.tmp 94) ?_ ?_ (sn_trunk (fun i9 hi9 => (hb'.cell (p := ⟨b, off + i * 36 + i9, none⟩) hb).trans (hci i9 hi9))) Tryd.underlying26 ?_ (tC_infoA (snA_size x)) <;> rfl); (try go_simp); (try with_reducible rfl)
                try simp only [Act.put, List.setIfInBounds_toArray, List.set_cons_zero, List.set_cons_succ]
                refine gs_take (i := 6) (d := (some 96)) (v := ?_) rfl rfl (by kernel_rfl) (fun _ _ _ h => h) (by rfl) hZ (fun w' hb' => ?_) ?_
                rotate_left
                · (try go_simp); (try with_reducible rfl)
                try simp only [Act.put, List.setIfInBounds_toArray, List.set_cons_zero, List.set_cons_succ]
                refine gs_take (i := 7) (d := (some 97)) (v := ?_) rfl rfl (by kernel_rfl) (fun _ _ _ h => h) (by rfl) hZ (fun w' hb' => ?_) ?_
                rotate_left
                · (try go_simp); (try with_reducible rfl)
                try simp only [Act.put, List.setIfInBounds_toArray, List.set_cons_zero, List.set_cons_succ]
                refine gs_take (i := 8) (d := (some 98)) (v := ?_) rfl rfl (by kernel_rfl) (fun _ _ _ h => h) (by rfl) hZ (fun w' hb' => ?_) ?_
                rotate_left
                · (try go_simp); (try with_reducible rfl)
                try simp only [Act.put, List.setIfInBounds_toArray, List.set_cons_zero, List.set_cons_succ]
                refine gs_take (i := 9) (d := (some 99)) (v := ?_) rfl rfl (by kernel_rfl) (fun _ _ _ h => h) (by rfl) hZ (fun w' hb' => ?_) ?_
                rotate_left
                · (try go_simp); (try with_reducible rfl)
                try simp only [Act.put, List.setIfInBounds_toArray, List.set_cons_zero, List.set_cons_succ]
                refine gs_take (i := 10) (d := (some 100)) (v := ?_) rfl rfl (by kernel_rfl) (fun _ _ _ h => h) (by rfl) hZ (fun w' hb' => ?_) ?_
                rotate_left
                · (try go_simp); (try with_reducible rfl)
                try simp only [Act.put, List.setIfInBounds_toArray, List.set_cons_zero, List.set_cons_succ]
                refine gs_take (i := 11) (d := (some 101)) (v := ?_) rfl rfl (by kernel_rfl) (fun _ _ _ h => h) (by rfl) hZ (fun w' hb' => ?_) ?_
                rotate_left
                · (refine load_partO_op _ _ (.tmp 100) ?_ ?_ (sn_trunk (fun i9 hi9 => (hb'.cell (p := ⟨b, off + j * 36 + i9, none⟩) hb).trans (hcj i9 hi9))) Tryd.underlying26 ?_ (tC_infoA (snA_size y)) <;> rfl); (try go_simp); (try with_reducible rfl)
                try simp only [Act.put, List.setIfInBounds_toArray, List.set_cons_zero, List.set_cons_succ]
                refine gs_run2 (i := 12) (k := 13) rfl rfl (by kernel_rfl) (by rfl) (by rfl) (fun K hK => ?_) (fun K hK => ?_)
                · skip
                  go_simp
                  have hZ2 := hZ.alloc hZ.size (.cells zT 26)
                  refine hK _ _ ⟨hZ2, ?_⟩
                  clear hK K hZ
                  have hZ := hZ2
                  clear hZ2
                  try simp only [Act.put, List.setIfInBounds_toArray, List.set_cons_zero, List.set_cons_succ]
                  refine gs_run (i := 13) rfl (by kernel_rfl) (by rfl) (fun K hK => ?_)
                  go_simp
                  have hZ2 := hZ.alloc hZ.size (.cells zT 26)
                  refine hK _ _ ⟨hZ2, ?_⟩
                  clear hK K hZ
                  have hZ := hZ2
                  clear hZ2
                  try simp only [Act.put, List.setIfInBounds_toArray, List.set_cons_zero, List.set_cons_succ]
                  refine gs_run (i := 14) rfl (by kernel_rfl) (by rfl) (fun K hK => ?_)
                  refine wp_store_row 26 (.tmp 15) (.tmp 95) rfl _ (tC (snA x)) rfl rfl _ zT (show ((wd.alloc (.cells zT 26)).alloc (.cells zT 26)).heap[wd.heap.size]? = _ from qz1.out) (tC_infoA (snA_size x)) (by rw [tC_size (snA_size x)]; rfl) ox.out ?_
                  have hZ2 := below_row (g := wd.heap.size) hZ (by omega) (tC (snA x))
                  refine hK _ _ ⟨hZ2, ?_⟩
                  clear hK K hZ
                  have hZ := hZ2
                  clear hZ2
                  try simp only [Act.put, List.setIfInBounds_toArray, List.set_cons_zero, List.set_cons_succ]
                  refine gs_run (i := 15) rfl (by kernel_rfl) (by rfl) (fun K hK => ?_)
                  refine wp_store_row 26 (.tmp 16) (.tmp 101) rfl _ (tC (snA y)) rfl rfl _ zT (show (((wd.alloc (.cells zT 26)).alloc (.cells zT 26)).setRow (wd.heap.size) (tC (snA x))).heap[wd.heap.size + 1]? = _ by rw [setRow_other _ _ _ _ (by omega)]; exact qz2.out) (tC_infoA (snA_size y)) (by rw [tC_size (snA_size y)]; rfl) oy.out ?_
                  have hZ2 := below_row (g := wd.heap.size + 1) hZ (by omega) (tC (snA y))
                  refine hK _ _ ⟨hZ2, ?_⟩
                  clear hK K hZ
                  have hZ := hZ2
                  clear hZ2
                  try simp only [Act.put, List.setIfInBounds_toArray, List.set_cons_zero, List.set_cons_succ]
                  refine gs_done (by kernel_rfl) ?_
                  obtain ⟨W4, hW4⟩ : ∃ W, W = (((wd.alloc (.cells zT 26)).alloc (.cells zT 26)).setRow (wd.heap.size) (tC (snA x))).setRow (wd.heap.size + 1) (tC (snA y)) := ⟨_, rfl⟩
                  have q15 : W4.heap[wd.heap.size]? = some (.cells (tC (snA x)) 26 (0, 0)) := by rw [hW4, setRow_other _ _ _ _ (by omega)]; exact setRow_heap _ _ _ _ _ _ qz1.out
                  have q16 : W4.heap[wd.heap.size + 1]? = some (.cells (tC (snA y)) 26 (0, 0)) := by rw [hW4]; exact setRow_heap _ _ _ _ _ _ (show (((wd.alloc (.cells zT 26)).alloc (.cells zT 26)).setRow (wd.heap.size) (tC (snA x))).heap[wd.heap.size + 1]? = some (.cells zT 26 (0, 0)) by rw [setRow_other _ _ _ _ (by omega)]; exact qz2.out)
                  have gn : Below wd.heap.size wd W4 := by rw [hW4]; exact below_row (below_row (((Below.refl _ _).alloc (Nat.le_refl _) _).alloc (by simp) _) (by omega) _) (by omega) _
                  have hS := chain hSd gn
                  have hL := chain hLd gn
                  go_wp2_with fail
                  rw [← hW4]
                  clear hW4 gn hb hci hcj
                  refine g_start (by kernel_rfl) ?_
                  refine g_take (i := 0) (d := (some 102)) (v := ?_) rfl rfl (by kernel_rfl) (fun _ _ _ h => h) (by rfl) (fun w' hb' => ?_) ?_
                  rotate_left
                  · (try go_simp); (try with_reducible rfl)
                  try simp only [Act.put, List.setIfInBounds_toArray, List.set_cons_zero, List.set_cons_succ]
                  refine g_take (i := 1) (d := (some 103)) (v := ?_) rfl rfl (by kernel_rfl) (fun _ _ _ h => h) (by rfl) (fun w' hb' => ?_) ?_
                  rotate_left
                  · (try go_simp); (try with_reducible rfl)
                  try simp only [Act.put, List.setIfInBounds_toArray, List.set_cons_zero, List.set_cons_succ]
                  refine g_take (i := 2) (d := (some 104)) (v := ?_) rfl rfl (by kernel_rfl) (fun _ _ _ h => h) (by rfl) (fun w' hb' => ?_) ?_
                  rotate_left
                  · (try go_simp); (try with_reducible rfl)
                  try simp only [Act.put, List.setIfInBounds_toArray, List.set_cons_zero, List.set_cons_succ]
                  refine g_take (i := 3) (d := (some 105)) (v := ?_) rfl rfl (by kernel_rfl) (fun _ _ _ h => h) (by rfl) (fun w' hb' => ?_) ?_
                  rotate_left
                  · have zz := (hb'.cell (p := ⟨wd.heap.size, 16 + k, none⟩) (lt_of_block q15)).trans ((block_cell q15 (16 + k)).trans VX.out); have zy := zz; rw [Nat.add_comm 16 k] at zy; (try go_simp); (try with_reducible rfl)
                  try simp only [Act.put, List.setIfInBounds_toArray, List.set_cons_zero, List.set_cons_succ]
                  refine g_take (i := 4) (d := (some 106)) (v := ?_) rfl rfl (by kernel_rfl) (fun _ _ _ h => h) (by rfl) (fun w' hb' => ?_) ?_
                  rotate_left
                  · (try go_simp); (try with_reducible rfl)
                  try simp only [Act.put, List.setIfInBounds_toArray, List.set_cons_zero, List.set_cons_succ]
                  refine g_take (i := 5) (d := (some 107)) (v := ?_) rfl rfl (by kernel_rfl) (fun _ _ _ h => h) (by rfl) (fun w' hb' => ?_) ?_
                  rotate_left
                  · (try go_simp); (try with_reducible rfl)
                  try simp only [Act.put, List.setIfInBounds_toArray, List.set_cons_zero, List.set_cons_succ]
                  refine g_take (i := 6) (d := (some 108)) (v := ?_) rfl rfl (by kernel_rfl) (fun _ _ _ h => h) (by rfl) (fun w' hb' => ?_) ?_
                  rotate_left
                  · (try go_simp); (try with_reducible rfl)
                  try simp only [Act.put, List.setIfInBounds_toArray, List.set_cons_zero, List.set_cons_succ]
                  refine g_take (i := 7) (d := (some 109)) (v := ?_) rfl rfl (by kernel_rfl) (fun _ _ _ h => h) (by rfl) (fun w' hb' => ?_) ?_
                  rotate_left
                  · have zz := (hb'.cell (p := ⟨wd.heap.size + 1, 16 + k, none⟩) (lt_of_block q16)).trans ((block_cell q16 (16 + k)).trans VY.out); have zy := zz; rw [Nat.add_comm 16 k] at zy; (try go_simp); (try with_reducible rfl)
                  try simp only [Act.put, List.setIfInBounds_toArray, List.set_cons_zero, List.set_cons_succ]
                  refine g_take (i := 8) (d := (some 110)) (v := ?_) rfl rfl (by kernel_rfl) (fun _ _ _ h => h) (by rfl) (fun w' hb' => ?_) ?_
                  rotate_left
                  · (try go_simp); (try with_reducible rfl)
                  try simp only [Act.put, List.setIfInBounds_toArray, List.set_cons_zero, List.set_cons_succ]
                  refine g_take (i := 9) (d := (some 111)) (v := ?_) rfl rfl (by kernel_rfl) (fun _ _ _ h => h) (by rfl) (fun w' hb' => ?_) ?_
                  rotate_left
                  · (try go_simp); (try with_reducible rfl)
                  try simp only [Act.put, List.setIfInBounds_toArray, List.set_cons_zero, List.set_cons_succ]
                  refine g_take (i := 10) (d := (some 112)) (v := ?_) rfl rfl (by kernel_rfl) (fun _ _ _ h => h) (by rfl) (fun w' hb' => ?_) ?_
                  rotate_left
                  · (try go_simp); (try with_reducible rfl)
                  try simp only [Act.put, List.setIfInBounds_toArray, List.set_cons_zero, List.set_cons_succ]
                  refine g_take (i := 11) (d := (some 113)) (v := ?_) rfl rfl (by kernel_rfl) (fun _ _ _ h => h) (by rfl) (fun w' hb' => ?_) ?_
                  rotate_left
                  · (try go_simp); (try with_reducible rfl)
                  try simp only [Act.put, List.setIfInBounds_toArray, List.set_cons_zero, List.set_cons_succ]
                  refine g_take (i := 12) (d := (some 114)) (v := ?_) rfl rfl (by kernel_rfl) (fun _ _ _ h => h) (by rfl) (fun w' hb' => ?_) ?_
                  rotate_left
                  · (try go_simp); (try with_reducible rfl)
                  try simp only [Act.put, List.setIfInBounds_toArray, List.set_cons_zero, List.set_cons_succ]
                  refine g_take (i := 13) (d := (some 115)) (v := ?_) rfl rfl (by kernel_rfl) (fun _ _ _ h => h) (by rfl) (fun w' hb' => ?_) ?_
                  rotate_left
                  · have zz := (hb'.cell (p := ⟨wd.heap.size, k, none⟩) (lt_of_block q15)).trans ((block_cell q15 k).trans HU.out); (try go_simp); (try with_reducible rfl)
                  try simp only [Act.put, List.setIfInBounds_toArray, List.set_cons_zero, List.set_cons_succ]
                  refine g_take (i := 14) (d := (some 116)) (v := ?_) rfl rfl (by kernel_rfl) (fun _ _ _ h => h) (by rfl) (fun w' hb' => ?_) ?_
                  rotate_left
                  · (try go_simp); (try with_reducible rfl)
                  try simp only [Act.put, List.setIfInBounds_toArray, List.set_cons_zero, List.set_cons_succ]
                  refine g_take (i := 15) (d := (some 117)) (v := ?_) rfl rfl (by kernel_rfl) (fun _ _ _ h => h) (by rfl) (fun w' hb' => ?_) ?_
                  rotate_left
                  · (try go_simp); (try with_reducible rfl)
                  try simp only [Act.put, List.setIfInBounds_toArray, List.set_cons_zero, List.set_cons_succ]
                  refine g_take (i := 16) (d := (some 118)) (v := ?_) rfl rfl (by kernel_rfl) (fun _ _ _ h => h) (by rfl) (fun w' hb' => ?_) ?_
                  rotate_left
                  · (try go_simp); (try with_reducible rfl)
                  try simp only [Act.put, List.setIfInBounds_toArray, List.set_cons_zero, List.set_cons_succ]
                  refine g_take (i := 17) (d := (some 119)) (v := ?_) rfl rfl (by kernel_rfl) (fun _ _ _ h => h) (by rfl) (fun w' hb' => ?_) ?_
                  rotate_left
                  · have zz := (hb'.cell (p := ⟨wd.heap.size + 1, k, none⟩) (lt_of_block q16)).trans ((block_cell q16 k).trans HU2.out); (try go_simp); (try with_reducible rfl)
                  try simp only [Act.put, List.setIfInBounds_toArray, List.set_cons_zero, List.set_cons_succ]
                  refine g_run (i := 18) rfl (by kernel_rfl) (by rfl) (fun K hK => ?_)
                  go_simp; refine (SG.out _ (Below.drew hL)).mono ?_; rintro e uu ⟨rfl, nd, hw2⟩; have gg : Below W4.drew.heap.size W4.drew uu := (by rw [hw2]; exact below_drewN (Below.refl _ _)); clear hw2; have hS := chain (Below.drew hS) gg; have hL := chain (Below.drew hL) gg; refine hK _ _ ⟨gg, ?_⟩; clear hK K gg
                  try simp only [Act.put, List.setIfInBounds_toArray, List.set_cons_zero, List.set_cons_succ]
                  refine g_take (i := 19) (d := (some 121)) (v := ?_) rfl rfl (by kernel_rfl) (fun _ _ _ h => h) (by rfl) (fun w' hb' => ?_) ?_
                  rotate_left
                  · (try go_simp); (try with_reducible rfl)
                  try simp only [Act.put, List.setIfInBounds_toArray, List.set_cons_zero, List.set_cons_succ]
                  refine g_take (i := 20) (d := (some 122)) (v := ?_) rfl rfl (by kernel_rfl) (fun _ _ _ h => h) (by rfl) (fun w' hb' => ?_) ?_
                  rotate_left
                  · (try go_simp); (try with_reducible rfl)
                  try simp only [Act.put, List.setIfInBounds_toArray, List.set_cons_zero, List.set_cons_succ]
                  refine g_done (by kernel_rfl) ?_
                  have own9 := own_keep OWNC.out hL
                  obtain ⟨gc, cc, hvc⟩ : ∃ g c, Value.slice a3 UL.length c3 = .slice (some ⟨g, 0, none⟩) UL.length c := by
                    rcases own9.2 with ⟨_, h0⟩ | ⟨g, c, cur, h1, _⟩
                    · have := HLN.out; omega
                    · exact ⟨g, c, h1⟩
                  injection hvc with e1 e2 e3
                  subst e1
                  clear e2
                  subst e3
                  have cc9 := own9.cellAt n (by have := HLN.out; omega)
                  rw [List.getElem?_map, List.getElem?_eq_getElem HLN.out, Option.map_some, HUK.out] at cc9
                  have fn : (n : Int) < UL.length := by have := HLN.out; omega
                  have fn2 : decide ((UL.length : Int) ≤ (n : Int)) = false := decide_eq_false (by omega)
                  have fn3 : IntKind.i64.wrap ((n : Int) + 1) = ((n + 1 : Nat) : Int) := by rw [IntKind.wrap_i64]; omega
                  clear own9
                  go_wp2_with fail
                  exact ⟨⟨k + 1, n + 1, by omega, by push_cast; rfl, by push_cast; rfl, HNX.out, hL⟩, by simp [intOf]; omega⟩
                · skip
                  go_simp
                  have hZ2 := hZ.alloc hZ.size (.cells zT 26)
                  refine hK _ _ ⟨hZ2, ?_⟩
                  clear hK K hZ
                  have hZ := hZ2
                  clear hZ2
                  try simp only [Act.put, List.setIfInBounds_toArray, List.set_cons_zero, List.set_cons_succ]
                  refine gs_run (i := 12) rfl (by kernel_rfl) (by rfl) (fun K hK => ?_)
                  go_simp
                  have hZ2 := hZ.alloc hZ.size (.cells zT 26)
                  refine hK _ _ ⟨hZ2, ?_⟩
                  clear hK K hZ
                  have hZ := hZ2
                  clear hZ2
                  try simp only [Act.put, List.setIfInBounds_toArray, List.set_cons_zero, List.set_cons_succ]
                  refine gs_run (i := 14) rfl (by kernel_rfl) (by rfl) (fun K hK => ?_)
                  refine wp_store_row 26 (.tmp 15) (.tmp 95) rfl _ (tC (snA x)) rfl rfl _ zT (show ((wd.alloc (.cells zT 26)).alloc (.cells zT 26)).heap[wd.heap.size + 1]? = _ from qz2.out) (tC_infoA (snA_size x)) (by rw [tC_size (snA_size x)]; rfl) ox.out ?_
                  have hZ2 := below_row (g := wd.heap.size + 1) hZ (by omega) (tC (snA x))
                  refine hK _ _ ⟨hZ2, ?_⟩
                  clear hK K hZ
                  have hZ := hZ2
                  clear hZ2
                  try simp only [Act.put, List.setIfInBounds_toArray, List.set_cons_zero, List.set_cons_succ]
                  refine gs_run (i := 15) rfl (by kernel_rfl) (by rfl) (fun K hK => ?_)
                  refine wp_store_row 26 (.tmp 16) (.tmp 101) rfl _ (tC (snA y)) rfl rfl _ zT (show (((wd.alloc (.cells zT 26)).alloc (.cells zT 26)).setRow (wd.heap.size + 1) (tC (snA x))).heap[wd.heap.size]? = _ by rw [setRow_other _ _ _ _ (by omega)]; exact qz1.out) (tC_infoA (snA_size y)) (by rw [tC_size (snA_size y)]; rfl) oy.out ?_
                  have hZ2 := below_row (g := wd.heap.size) hZ (by omega) (tC (snA y))
                  refine hK _ _ ⟨hZ2, ?_⟩
                  clear hK K hZ
                  have hZ := hZ2
                  clear hZ2
                  try simp only [Act.put, List.setIfInBounds_toArray, List.set_cons_zero, List.set_cons_succ]
                  refine gs_done (by kernel_rfl) ?_
                  obtain ⟨W4, hW4⟩ : ∃ W, W = (((wd.alloc (.cells zT 26)).alloc (.cells zT 26)).setRow (wd.heap.size + 1) (tC (snA x))).setRow (wd.heap.size) (tC (snA y)) := ⟨_, rfl⟩
                  have q15 : W4.heap[wd.heap.size + 1]? = some (.cells (tC (snA x)) 26 (0, 0)) := by rw [hW4, setRow_other _ _ _ _ (by omega)]; exact setRow_heap _ _ _ _ _ _ qz2.out
                  have q16 : W4.heap[wd.heap.size]? = some (.cells (tC (snA y)) 26 (0, 0)) := by rw [hW4]; exact setRow_heap _ _ _ _ _ _ (show (((wd.alloc (.cells zT 26)).alloc (.cells zT 26)).setRow (wd.heap.size + 1) (tC (snA x))).heap[wd.heap.size]? = some (.cells zT 26 (0, 0)) by rw [setRow_other _ _ _ _ (by omega)]; exact qz1.out)
                  have gn : Below wd.heap.size wd W4 := by rw [hW4]; exact below_row (below_row (((Below.refl _ _).alloc (Nat.le_refl _) _).alloc (by simp) _) (by omega) _) (by omega) _
                  have hS := chain hSd gn
                  have hL := chain hLd gn
                  go_wp2_with fail
                  rw [← hW4]
                  clear hW4 gn hb hci hcj
                  refine g_start (by kernel_rfl) ?_
                  refine g_take (i := 0) (d := (some 102)) (v := ?_) rfl rfl (by kernel_rfl) (fun _ _ _ h => h) (by rfl) (fun w' hb' => ?_) ?_
                  rotate_left
                  · (try go_simp); (try with_reducible rfl)
                  try simp only [Act.put, List.setIfInBounds_toArray, List.set_cons_zero, List.set_cons_succ]
                  refine g_take (i := 1) (d := (some 103)) (v := ?_) rfl rfl (by kernel_rfl) (fun _ _ _ h => h) (by rfl) (fun w' hb' => ?_) ?_
                  rotate_left
                  · (try go_simp); (try with_reducible rfl)
                  try simp only [Act.put, List.setIfInBounds_toArray, List.set_cons_zero, List.set_cons_succ]
                  refine g_take (i := 2) (d := (some 104)) (v := ?_) rfl rfl (by kernel_rfl) (fun _ _ _ h => h) (by rfl) (fun w' hb' => ?_) ?_
                  rotate_left
                  · (try go_simp); (try with_reducible rfl)
                  try simp only [Act.put, List.setIfInBounds_toArray, List.set_cons_zero, List.set_cons_succ]
                  refine g_take (i := 3) (d := (some 105)) (v := ?_) rfl rfl (by kernel_rfl) (fun _ _ _ h => h) (by rfl) (fun w' hb' => ?_) ?_
                  rotate_left
                  · have zz := (hb'.cell (p := ⟨wd.heap.size + 1, 16 + k, none⟩) (lt_of_block q15)).trans ((block_cell q15 (16 + k)).trans VX.out); have zy := zz; rw [Nat.add_comm 16 k] at zy; (try go_simp); (try with_reducible rfl)
                  try simp only [Act.put, List.setIfInBounds_toArray, List.set_cons_zero, List.set_cons_succ]
                  refine g_take (i := 4) (d := (some 106)) (v := ?_) rfl rfl (by kernel_rfl) (fun _ _ _ h => h) (by rfl) (fun w' hb' => ?_) ?_
                  rotate_left
                  · (try go_simp); (try with_reducible rfl)
                  try simp only [Act.put, List.setIfInBounds_toArray, List.set_cons_zero, List.set_cons_succ]
                  refine g_take (i := 5) (d := (some 107)) (v := ?_) rfl rfl (by kernel_rfl) (fun _ _ _ h => h) (by rfl) (fun w' hb' => ?_) ?_
                  rotate_left
                  · (try go_simp); (try with_reducible rfl)
                  try simp only [Act.put, List.setIfInBounds_toArray, List.set_cons_zero, List.set_cons_succ]
                  refine g_take (i := 6) (d := (some 108)) (v := ?_) rfl rfl (by kernel_rfl) (fun _ _ _ h => h) (by rfl) (fun w' hb' => ?_) ?_
                  rotate_left
                  · (try go_simp); (try with_reducible rfl)
                  try simp only [Act.put, List.setIfInBounds_toArray, List.set_cons_zero, List.set_cons_succ]
                  refine g_take (i := 7) (d := (some 109)) (v := ?_) rfl rfl (by kernel_rfl) (fun _ _ _ h => h) (by rfl) (fun w' hb' => ?_) ?_
                  rotate_left
                  · have zz := (hb'.cell (p := ⟨wd.heap.size, 16 + k, none⟩) (lt_of_block q16)).trans ((block_cell q16 (16 + k)).trans VY.out); have zy := zz; rw [Nat.add_comm 16 k] at zy; (try go_simp); (try with_reducible rfl)
                  try simp only [Act.put, List.setIfInBounds_toArray, List.set_cons_zero, List.set_cons_succ]
                  refine g_take (i := 8) (d := (some 110)) (v := ?_) rfl rfl (by kernel_rfl) (fun _ _ _ h => h) (by rfl) (fun w' hb' => ?_) ?_
                  rotate_left
                  · (try go_simp); (try with_reducible rfl)
                  try simp only [Act.put, List.setIfInBounds_toArray, List.set_cons_zero, List.set_cons_succ]
                  refine g_take (i := 9) (d := (some 111)) (v := ?_) rfl rfl (by kernel_rfl) (fun _ _ _ h => h) (by rfl) (fun w' hb' => ?_) ?_
                  rotate_left
                  · (try go_simp); (try with_reducible rfl)
                  try simp only [Act.put, List.setIfInBounds_toArray, List.set_cons_zero, List.set_cons_succ]
                  refine g_take (i := 10) (d := (some 112)) (v := ?_) rfl rfl (by kernel_rfl) (fun _ _ _ h => h) (by rfl) (fun w' hb' => ?_) ?_
                  rotate_left
                  · (try go_simp); (try with_reducible rfl)
                  try simp only [Act.put, List.setIfInBounds_toArray, List.set_cons_zero, List.set_cons_succ]
                  refine g_take (i := 11) (d := (some 113)) (v := ?_) rfl rfl (by kernel_rfl) (fun _ _ _ h => h) (by rfl) (fun w' hb' => ?_) ?_
                  rotate_left
                  · (try go_simp); (try with_reducible rfl)
                  try simp only [Act.put, List.setIfInBounds_toArray, List.set_cons_zero, List.set_cons_succ]
                  refine g_take (i := 12) (d := (some 114)) (v := ?_) rfl rfl (by kernel_rfl) (fun _ _ _ h => h) (by rfl) (fun w' hb' => ?_) ?_
                  rotate_left
                  · (try go_simp); (try with_reducible rfl)
                  try simp only [Act.put, List.setIfInBounds_toArray, List.set_cons_zero, List.set_cons_succ]
                  refine g_take (i := 13) (d := (some 115)) (v := ?_) rfl rfl (by kernel_rfl) (fun _ _ _ h => h) (by rfl) (fun w' hb' => ?_) ?_
                  rotate_left
                  · have zz := (hb'.cell (p := ⟨wd.heap.size + 1, k, none⟩) (lt_of_block q15)).trans ((block_cell q15 k).trans HU.out); (try go_simp); (try with_reducible rfl)
                  try simp only [Act.put, List.setIfInBounds_toArray, List.set_cons_zero, List.set_cons_succ]
                  refine g_take (i := 14) (d := (some 116)) (v := ?_) rfl rfl (by kernel_rfl) (fun _ _ _ h => h) (by rfl) (fun w' hb' => ?_) ?_
                  rotate_left
                  · (try go_simp); (try with_reducible rfl)
                  try simp only [Act.put, List.setIfInBounds_toArray, List.set_cons_zero, List.set_cons_succ]
                  refine g_take (i := 15) (d := (some 117)) (v := ?_) rfl rfl (by kernel_rfl) (fun _ _ _ h => h) (by rfl) (fun w' hb' => ?_) ?_
                  rotate_left
                  · (try go_simp); (try with_reducible rfl)
                  try simp only [Act.put, List.setIfInBounds_toArray, List.set_cons_zero, List.set_cons_succ]
                  refine g_take (i := 16) (d := (some 118)) (v := ?_) rfl rfl (by kernel_rfl) (fun _ _ _ h => h) (by rfl) (fun w' hb' => ?_) ?_
                  rotate_left
                  · (try go_simp); (try with_reducible rfl)
                  try simp only [Act.put, List.setIfInBounds_toArray, List.set_cons_zero, List.set_cons_succ]
                  refine g_take (i := 17) (d := (some 119)) (v := ?_) rfl rfl (by kernel_rfl) (fun _ _ _ h => h) (by rfl) (fun w' hb' => ?_) ?_
                  rotate_left
                  · have zz := (hb'.cell (p := ⟨wd.heap.size, k, none⟩) (lt_of_block q16)).trans ((block_cell q16 k).trans HU2.out); (try go_simp); (try with_reducible rfl)
                  try simp only [Act.put, List.setIfInBounds_toArray, List.set_cons_zero, List.set_cons_succ]
                  refine g_run (i := 18) rfl (by kernel_rfl) (by rfl) (fun K hK => ?_)
                  go_simp; refine (SG.out _ (Below.drew hL)).mono ?_; rintro e uu ⟨rfl, nd, hw2⟩; have gg : Below W4.drew.heap.size W4.drew uu := (by rw [hw2]; exact below_drewN (Below.refl _ _)); clear hw2; have hS := chain (Below.drew hS) gg; have hL := chain (Below.drew hL) gg; refine hK _ _ ⟨gg, ?_⟩; clear hK K gg
                  try simp only [Act.put, List.setIfInBounds_toArray, List.set_cons_zero, List.set_cons_succ]
                  refine g_take (i := 19) (d := (some 121)) (v := ?_) rfl rfl (by kernel_rfl) (fun _ _ _ h => h) (by rfl) (fun w' hb' => ?_) ?_
                  rotate_left
                  · (try go_simp); (try with_reducible rfl)
                  try simp only [Act.put, List.setIfInBounds_toArray, List.set_cons_zero, List.set_cons_succ]
                  refine g_take (i := 20) (d := (some 122)) (v := ?_) rfl rfl (by kernel_rfl) (fun _ _ _ h => h) (by rfl) (fun w' hb' => ?_) ?_
                  rotate_left
                  · (try go_simp); (try with_reducible rfl)
                  try simp only [Act.put, List.setIfInBounds_toArray, List.set_cons_zero, List.set_cons_succ]
                  refine g_done (by kernel_rfl) ?_
                  have own9 := own_keep OWNC.out hL
                  obtain ⟨gc, cc, hvc⟩ : ∃ g c, Value.slice a3 UL.length c3 = .slice (some ⟨g, 0, none⟩) UL.length c := by
                    rcases own9.2 with ⟨_, h0⟩ | ⟨g, c, cur, h1, _⟩
                    · have := HLN.out; omega
                    · exact ⟨g, c, h1⟩
                  injection hvc with e1 e2 e3
                  subst e1
                  clear e2
                  subst e3
                  have cc9 := own9.cellAt n (by have := HLN.out; omega)
                  rw [List.getElem?_map, List.getElem?_eq_getElem HLN.out, Option.map_some, HUK.out] at cc9
                  have fn : (n : Int) < UL.length := by have := HLN.out; omega
                  have fn2 : decide ((UL.length : Int) ≤ (n : Int)) = false := decide_eq_false (by omega)
                  have fn3 : IntKind.i64.wrap ((n : Int) + 1) = ((n + 1 : Nat) : Int) := by rw [IntKind.wrap_i64]; omega
                  clear own9
                  go_wp2_with fail
                  exact ⟨⟨k + 1, n + 1, by omega, by push_cast; rfl, by push_cast; rfl, HNX.out, hL⟩, by simp [intOf]; omega⟩
        
            · have tv9 : (x.s.vs k != y.s.vs k) = true := by rw [← hA9, ← hB9]; simp [hv]
              have tv : (A9 != B9) = true := by simp [hv]
              have tve : (A9 == B9) = false := by simp [hv]
              have tvd : decide (A9 = B9) = false := by simp [hv]
              have VY := Lib.hid VY0
              clear VY0 hA9 hB9
              have SG := Lib.hid SG0
              have hU : unlB x.s.lv y.s.lv x.s.vs y.s.vs k = true := by unfold unlB; rw [tv9]; rfl
              have HNX := Lib.hid (show Hid (n + 1 = (unlL x.s.lv y.s.lv x.s.vs y.s.vs (k + 1)).length) from Lib.hid (by rw [HS9, if_pos hU, List.length_append, ← HN.out]; rfl))
              have HLN := Lib.hid (show n < UL.length by rw [HUL.out, HN.out]; exact (unl_at hlt hU).1)
              have HUK := Lib.hid (show ivN (UL[n]'HLN.out) = .int .i64 (k : Int) by rw [ul_at HUL.out HN.out hlt hU HLN.out]; rfl)
              clear SG0 HS9 hv hU tv9
              go_wp2_with fail
              obtain ⟨wd, hwd⟩ : ∃ W, W = wr.drew := ⟨_, rfl⟩
              have hSd := Below.drew hS
              have hLd := Below.drew hL
              have hci : ∀ i9, i9 < 36 → wr.drew.cell? ⟨b, off + i * 36 + i9, none⟩ = (snC x)[i9]? := hci
              have hcj : ∀ i9, i9 < 36 → wr.drew.cell? ⟨b, off + j * 36 + i9, none⟩ = (snC y)[i9]? := hcj
              have hb : b < wr.drew.heap.size := hb
              rw [← hwd] at hSd hLd hci hcj hb
              obtain ⟨z1, z2, -, -⟩ := two_allocs wd (.cells zT 26) (.cells zT 26)
              have qz1 := Lib.hid z1
              have qz2 := Lib.hid z2
              clear z1 z2 hS hL
              refine gs_start (S := (fun w' => Below wd.heap.size wd w')) (by kernel_rfl) ?_
              rw [← hwd]
              clear hwd
              have hZ := Below.refl wd.heap.size wd
              refine gs_take (i := 0) (d := (some 90)) (v := ?_) rfl rfl (by kernel_rfl) (fun _ _ _ h => h) (by rfl) hZ (fun w' hb' => ?_) ?_
              rotate_left
              · (try go_simp); (try with_reducible rfl)
              try simp only [Act.put, List.setIfInBounds_toArray, List.set_cons_zero, List.set_cons_succ]
              refine gs_take (i := 1) (d := (some 91)) (v := ?_) rfl rfl (by kernel_rfl) (fun _ _ _ h => h) (by rfl) hZ (fun w' hb' => ?_) ?_
              rotate_left
              · (try go_simp); (try with_reducible rfl)
              try simp only [Act.put, List.setIfInBounds_toArray, List.set_cons_zero, List.set_cons_succ]
              refine gs_take (i := 2) (d := (some 92)) (v := ?_) rfl rfl (by kernel_rfl) (fun _ _ _ h => h) (by rfl) hZ (fun w' hb' => ?_) ?_
              rotate_left
              · (try go_simp); (try with_reducible rfl)
              try simp only [Act.put, List.setIfInBounds_toArray, List.set_cons_zero, List.set_cons_succ]
              refine gs_take (i := 3) (d := (some 93)) (v := ?_) rfl rfl (by kernel_rfl) (fun _ _ _ h => h) (by rfl) hZ (fun w' hb' => ?_) ?_
              rotate_left
              · (try go_simp); (try with_reducible rfl)
              try simp only [Act.put, List.setIfInBounds_toArray, List.set_cons_zero, List.set_cons_succ]
              refine gs_take (i := 4) (d := (some 94)) (v := ?_) rfl rfl (by kernel_rfl) (fun _ _ _ h => h) (by rfl) hZ (fun w' hb' => ?_) ?_
              rotate_left
              · (try go_simp); (try with_reducible rfl)
              try simp only [Act.put, List.setIfInBounds_toArray, List.set_cons_zero, List.set_cons_succ]
              refine gs_take (i := 5) (d := (some 95)) (v := ?_) rfl rfl (by kernel_rfl) (fun _ _ _ h => h) (by rfl) hZ (fun w' hb' => ?_) ?_
              rotate_left
              · (refine load_partO_op _ _ (.tmp 94) ?_ ?_ (sn_trunk (fun i9 hi9 => (hb'.cell (p := ⟨b, off + i * 36 + i9, none⟩) hb).trans (hci i9 hi9))) Tryd.underlying26 ?_ (tC_infoA (snA_size x)) <;> rfl); (try go_simp); (try with_reducible rfl)
              try simp only [Act.put, List.setIfInBounds_toArray, List.set_cons_zero, List.set_cons_succ]
              refine gs_take (i := 6) (d := (some 96)) (v := ?_) rfl rfl (by kernel_rfl) (fun _ _ _ h => h) (by rfl) hZ (fun w' hb' => ?_) ?_
              rotate_left
              · (try go_simp); (try with_reducible rfl)
              try simp only [Act.put, List.setIfInBounds_toArray, List.set_cons_zero, List.set_cons_succ]
              refine gs_take (i := 7) (d := (some 97)) (v := ?_) rfl rfl (by kernel_rfl) (fun _ _ _ h => h) (by rfl) hZ (fun w' hb' => ?_) ?_
              rotate_left
              · (try go_simp); (try with_reducible rfl)
              try simp only [Act.put, List.setIfInBounds_toArray, List.set_cons_zero, List.set_cons_succ]
              refine gs_take (i := 8) (d := (some 98)) (v := ?_) rfl rfl (by kernel_rfl) (fun _ _ _ h => h) (by rfl) hZ (fun w' hb' => ?_) ?_
              rotate_left
              · (try go_simp); (try with_reducible rfl)
              try simp only [Act.put, List.setIfInBounds_toArray, List.set_cons_zero, List.set_cons_succ]
              refine gs_take (i := 9) (d := (some 99)) (v := ?_) rfl rfl (by kernel_rfl) (fun _ _ _ h => h) (by rfl) hZ (fun w' hb' => ?_) ?_
              rotate_left
              · (try go_simp); (try with_reducible rfl)
              try simp only [Act.put, List.setIfInBounds_toArray, List.set_cons_zero, List.set_cons_succ]
              refine gs_take (i := 10) (d := (some 100)) (v := ?_) rfl rfl (by kernel_rfl) (fun _ _ _ h => h) (by rfl) hZ (fun w' hb' => ?_) ?_
              rotate_left
              · (try go_simp); (try with_reducible rfl)
              try simp only [Act.put, List.setIfInBounds_toArray, List.set_cons_zero, List.set_cons_succ]
              refine gs_take (i := 11) (d := (some 101)) (v := ?_) rfl rfl (by kernel_rfl) (fun _ _ _ h => h) (by rfl) hZ (fun w' hb' => ?_) ?_
              rotate_left
              · (refine load_partO_op _ _ (.tmp 100) ?_ ?_ (sn_trunk (fun i9 hi9 => (hb'.cell (p := ⟨b, off + j * 36 + i9, none⟩) hb).trans (hcj i9 hi9))) Tryd.underlying26 ?_ (tC_infoA (snA_size y)) <;> rfl); (try go_simp); (try with_reducible rfl)
              try simp only [Act.put, List.setIfInBounds_toArray, List.set_cons_zero, List.set_cons_succ]
              refine gs_run2 (i := 12) (k := 13) rfl rfl (by kernel_rfl) (by rfl) (by rfl) (fun K hK => ?_) (fun K hK => ?_)
              · skip
                go_simp
                have hZ2 := hZ.alloc hZ.size (.cells zT 26)
                refine hK _ _ ⟨hZ2, ?_⟩
                clear hK K hZ
                have hZ := hZ2
                clear hZ2
                try simp only [Act.put, List.setIfInBounds_toArray, List.set_cons_zero, List.set_cons_succ]
                refine gs_run (i := 13) rfl (by kernel_rfl) (by rfl) (fun K hK => ?_)
                go_simp
                have hZ2 := hZ.alloc hZ.size (.cells zT 26)
                refine hK _ _ ⟨hZ2, ?_⟩
                clear hK K hZ
                have hZ := hZ2
                clear hZ2
                try simp only [Act.put, List.setIfInBounds_toArray, List.set_cons_zero, List.set_cons_succ]
                refine gs_run (i := 14) rfl (by kernel_rfl) (by rfl) (fun K hK => ?_)
                refine wp_store_row 26 (.tmp 15) (.tmp 95) rfl _ (tC (snA x)) rfl rfl _ zT (show ((wd.alloc (.cells zT 26)).alloc (.cells zT 26)).heap[wd.heap.size]? = _ from qz1.out) (tC_infoA (snA_size x)) (by rw [tC_size (snA_size x)]; rfl) ox.out ?_
                have hZ2 := below_row (g := wd.heap.size) hZ (by omega) (tC (snA x))
                refine hK _ _ ⟨hZ2, ?_⟩
                clear hK K hZ
                have hZ := hZ2
                clear hZ2
                try simp only [Act.put, List.setIfInBounds_toArray, List.set_cons_zero, List.set_cons_succ]
                refine gs_run (i := 15) rfl (by kernel_rfl) (by rfl) (fun K hK => ?_)
                refine wp_store_row 26 (.tmp 16) (.tmp 101) rfl _ (tC (snA y)) rfl rfl _ zT (show (((wd.alloc (.cells zT 26)).alloc (.cells zT 26)).setRow (wd.heap.size) (tC (snA x))).heap[wd.heap.size + 1]? = _ by rw [setRow_other _ _ _ _ (by omega)]; exact qz2.out) (tC_infoA (snA_size y)) (by rw [tC_size (snA_size y)]; rfl) oy.out ?_
                have hZ2 := below_row (g := wd.heap.size + 1) hZ (by omega) (tC (snA y))
                refine hK _ _ ⟨hZ2, ?_⟩
                clear hK K hZ
                have hZ := hZ2
                clear hZ2
                try simp only [Act.put, List.setIfInBounds_toArray, List.set_cons_zero, List.set_cons_succ]
                refine gs_done (by kernel_rfl) ?_
                obtain ⟨W4, hW4⟩ : ∃ W, W = (((wd.alloc (.cells zT 26)).alloc (.cells zT 26)).setRow (wd.heap.size) (tC (snA x))).setRow (wd.heap.size + 1) (tC (snA y)) := ⟨_, rfl⟩
                have q15 : W4.heap[wd.heap.size]? = some (.cells (tC (snA x)) 26 (0, 0)) := by rw [hW4, setRow_other _ _ _ _ (by omega)]; exact setRow_heap _ _ _ _ _ _ qz1.out
                have q16 : W4.heap[wd.heap.size + 1]? = some (.cells (tC (snA y)) 26 (0, 0)) := by rw [hW4]; exact setRow_heap _ _ _ _ _ _ (show (((wd.alloc (.cells zT 26)).alloc (.cells zT 26)).setRow (wd.heap.size) (tC (snA x))).heap[wd.heap.size + 1]? = some (.cells zT 26 (0, 0)) by rw [setRow_other _ _ _ _ (by omega)]; exact qz2.out)
                have gn : Below wd.heap.size wd W4 := by rw [hW4]; exact below_row (below_row (((Below.refl _ _).alloc (Nat.le_refl _) _).alloc (by simp) _) (by omega) _) (by omega) _
                have hS := chain hSd gn
                have hL := chain hLd gn
                go_wp2_with fail
                rw [← hW4]
                clear hW4 gn hb hci hcj
                refine g_start (by kernel_rfl) ?_
                refine g_take (i := 0) (d := (some 102)) (v := ?_) rfl rfl (by kernel_rfl) (fun _ _ _ h => h) (by rfl) (fun w' hb' => ?_) ?_
                rotate_left
                · (try go_simp); (try with_reducible rfl)
                try simp only [Act.put, List.setIfInBounds_toArray, List.set_cons_zero, List.set_cons_succ]
                refine g_take (i := 1) (d := (some 103)) (v := ?_) rfl rfl (by kernel_rfl) (fun _ _ _ h => h) (by rfl) (fun w' hb' => ?_) ?_
                rotate_left
                · (try go_simp); (try with_reducible rfl)
                try simp only [Act.put, List.setIfInBounds_toArray, List.set_cons_zero, List.set_cons_succ]
                refine g_take (i := 2) (d := (some 104)) (v := ?_) rfl rfl (by kernel_rfl) (fun _ _ _ h => h) (by rfl) (fun w' hb' => ?_) ?_
                rotate_left
                · (try go_simp); (try with_reducible rfl)
                try simp only [Act.put, List.setIfInBounds_toArray, List.set_cons_zero, List.set_cons_succ]
                refine g_take (i := 3) (d := (some 105)) (v := ?_) rfl rfl (by kernel_rfl) (fun _ _ _ h => h) (by rfl) (fun w' hb' => ?_) ?_
                rotate_left
                · have zz := (hb'.cell (p := ⟨wd.heap.size, 16 + k, none⟩) (lt_of_block q15)).trans ((block_cell q15 (16 + k)).trans VX.out); have zy := zz; rw [Nat.add_comm 16 k] at zy; (try go_simp); (try with_reducible rfl)
                try simp only [Act.put, List.setIfInBounds_toArray, List.set_cons_zero, List.set_cons_succ]
                refine g_take (i := 4) (d := (some 106)) (v := ?_) rfl rfl (by kernel_rfl) (fun _ _ _ h => h) (by rfl) (fun w' hb' => ?_) ?_
                rotate_left
                · (try go_simp); (try with_reducible rfl)
                try simp only [Act.put, List.setIfInBounds_toArray, List.set_cons_zero, List.set_cons_succ]
                refine g_take (i := 5) (d := (some 107)) (v := ?_) rfl rfl (by kernel_rfl) (fun _ _ _ h => h) (by rfl) (fun w' hb' => ?_) ?_
                rotate_left
                · (try go_simp); (try with_reducible rfl)
                try simp only [Act.put, List.setIfInBounds_toArray, List.set_cons_zero, List.set_cons_succ]
                refine g_take (i := 6) (d := (some 108)) (v := ?_) rfl rfl (by kernel_rfl) (fun _ _ _ h => h) (by rfl) (fun w' hb' => ?_) ?_
                rotate_left
                · (try go_simp); (try with_reducible rfl)
                try simp only [Act.put, List.setIfInBounds_toArray, List.set_cons_zero, List.set_cons_succ]
                refine g_take (i := 7) (d := (some 109)) (v := ?_) rfl rfl (by kernel_rfl) (fun _ _ _ h => h) (by rfl) (fun w' hb' => ?_) ?_
                rotate_left
                · have zz := (hb'.cell (p := ⟨wd.heap.size + 1, 16 + k, none⟩) (lt_of_block q16)).trans ((block_cell q16 (16 + k)).trans VY.out); have zy := zz; rw [Nat.add_comm 16 k] at zy; (try go_simp); (try with_reducible rfl)
                try simp only [Act.put, List.setIfInBounds_toArray, List.set_cons_zero, List.set_cons_succ]
                refine g_take (i := 8) (d := (some 110)) (v := ?_) rfl rfl (by kernel_rfl) (fun _ _ _ h => h) (by rfl) (fun w' hb' => ?_) ?_
                rotate_left
                · (try go_simp); (try with_reducible rfl)
                try simp only [Act.put, List.setIfInBounds_toArray, List.set_cons_zero, List.set_cons_succ]
                refine g_take (i := 9) (d := (some 111)) (v := ?_) rfl rfl (by kernel_rfl) (fun _ _ _ h => h) (by rfl) (fun w' hb' => ?_) ?_
                rotate_left
                · (try go_simp); (try with_reducible rfl)
                try simp only [Act.put, List.setIfInBounds_toArray, List.set_cons_zero, List.set_cons_succ]
                refine g_skip (i := 10) (d := (some 112)) rfl rfl (by kernel_rfl) (fun _ _ _ h => h) (by rfl) ?_
                try simp only [Act.put, List.setIfInBounds_toArray, List.set_cons_zero, List.set_cons_succ]
                refine g_skip (i := 11) (d := (some 113)) rfl rfl (by kernel_rfl) (fun _ _ _ h => h) (by rfl) ?_
                try simp only [Act.put, List.setIfInBounds_toArray, List.set_cons_zero, List.set_cons_succ]
                refine g_skip (i := 12) (d := (some 114)) rfl rfl (by kernel_rfl) (fun _ _ _ h => h) (by rfl) ?_
                try simp only [Act.put, List.setIfInBounds_toArray, List.set_cons_zero, List.set_cons_succ]
                refine g_skip (i := 13) (d := (some 115)) rfl rfl (by kernel_rfl) (fun _ _ _ h => h) (by rfl) ?_
                try simp only [Act.put, List.setIfInBounds_toArray, List.set_cons_zero, List.set_cons_succ]
                refine g_skip (i := 14) (d := (some 116)) rfl rfl (by kernel_rfl) (fun _ _ _ h => h) (by rfl) ?_
                try simp only [Act.put, List.setIfInBounds_toArray, List.set_cons_zero, List.set_cons_succ]
                refine g_skip (i := 15) (d := (some 117)) rfl rfl (by kernel_rfl) (fun _ _ _ h => h) (by rfl) ?_
                try simp only [Act.put, List.setIfInBounds_toArray, List.set_cons_zero, List.set_cons_succ]
                refine g_skip (i := 16) (d := (some 118)) rfl rfl (by kernel_rfl) (fun _ _ _ h => h) (by rfl) ?_
                try simp only [Act.put, List.setIfInBounds_toArray, List.set_cons_zero, List.set_cons_succ]
                refine g_skip (i := 17) (d := (some 119)) rfl rfl (by kernel_rfl) (fun _ _ _ h => h) (by rfl) ?_
                try simp only [Act.put, List.setIfInBounds_toArray, List.set_cons_zero, List.set_cons_succ]
                refine g_skip (i := 18) (d := (some 120)) rfl rfl (by kernel_rfl) (fun _ _ _ h => h) (by rfl) ?_
                try simp only [Act.put, List.setIfInBounds_toArray, List.set_cons_zero, List.set_cons_succ]
                refine g_skip (i := 19) (d := (some 121)) rfl rfl (by kernel_rfl) (fun _ _ _ h => h) (by rfl) ?_
                try simp only [Act.put, List.setIfInBounds_toArray, List.set_cons_zero, List.set_cons_succ]
                refine g_take (i := 20) (d := (some 122)) (v := ?_) rfl rfl (by kernel_rfl) (fun _ _ _ h => h) (by rfl) (fun w' hb' => ?_) ?_
                rotate_left
                · (try go_simp); (try with_reducible rfl)
                try simp only [Act.put, List.setIfInBounds_toArray, List.set_cons_zero, List.set_cons_succ]
                refine g_done (by kernel_rfl) ?_
                have hS := hS.drew
                have hL := hL.drew
                have own9 := own_keep OWNC.out hL
                obtain ⟨gc, cc, hvc⟩ : ∃ g c, Value.slice a3 UL.length c3 = .slice (some ⟨g, 0, none⟩) UL.length c := by
                  rcases own9.2 with ⟨_, h0⟩ | ⟨g, c, cur, h1, _⟩
                  · have := HLN.out; omega
                  · exact ⟨g, c, h1⟩
                injection hvc with e1 e2 e3
                subst e1
                clear e2
                subst e3
                have cc9 := own9.cellAt n (by have := HLN.out; omega)
                rw [List.getElem?_map, List.getElem?_eq_getElem HLN.out, Option.map_some, HUK.out] at cc9
                have fn : (n : Int) < UL.length := by have := HLN.out; omega
                have fn2 : decide ((UL.length : Int) ≤ (n : Int)) = false := decide_eq_false (by omega)
                have fn3 : IntKind.i64.wrap ((n : Int) + 1) = ((n + 1 : Nat) : Int) := by rw [IntKind.wrap_i64]; omega
                clear own9
                go_wp2_with fail
                exact ⟨⟨k + 1, n + 1, by omega, by push_cast; rfl, by push_cast; rfl, HNX.out, hL⟩, by simp [intOf]; omega⟩
              · skip
                go_simp
                have hZ2 := hZ.alloc hZ.size (.cells zT 26)
                refine hK _ _ ⟨hZ2, ?_⟩
                clear hK K hZ
                have hZ := hZ2
                clear hZ2
                try simp only [Act.put, List.setIfInBounds_toArray, List.set_cons_zero, List.set_cons_succ]
                refine gs_run (i := 12) rfl (by kernel_rfl) (by rfl) (fun K hK => ?_)
                go_simp
                have hZ2 := hZ.alloc hZ.size (.cells zT 26)
                refine hK _ _ ⟨hZ2, ?_⟩
                clear hK K hZ
                have hZ := hZ2
                clear hZ2
                try simp only [Act.put, List.setIfInBounds_toArray, List.set_cons_zero, List.set_cons_succ]
                refine gs_run (i := 14) rfl (by kernel_rfl) (by rfl) (fun K hK => ?_)
                refine wp_store_row 26 (.tmp 15) (.tmp 95) rfl _ (tC (snA x)) rfl rfl _ zT (show ((wd.alloc (.cells zT 26)).alloc (.cells zT 26)).heap[wd.heap.size + 1]? = _ from qz2.out) (tC_infoA (snA_size x)) (by rw [tC_size (snA_size x)]; rfl) ox.out ?_
                have hZ2 := below_row (g := wd.heap.size + 1) hZ (by omega) (tC (snA x))
                refine hK _ _ ⟨hZ2, ?_⟩
                clear hK K hZ
                have hZ := hZ2
                clear hZ2
                try simp only [Act.put, List.setIfInBounds_toArray, List.set_cons_zero, List.set_cons_succ]
                refine gs_run (i := 15) rfl (by kernel_rfl) (by rfl) (fun K hK => ?_)
                refine wp_store_row 26 (.tmp 16) (.tmp 101) rfl _ (tC (snA y)) rfl rfl _ zT (show (((wd.alloc (.cells zT 26)).alloc (.cells zT 26)).setRow (wd.heap.size + 1) (tC (snA x))).heap[wd.heap.size]? = _ by rw [setRow_other _ _ _ _ (by omega)]; exact qz1.out) (tC_infoA (snA_size y)) (by rw [tC_size (snA_size y)]; rfl) oy.out ?_
                have hZ2 := below_row (g := wd.heap.size) hZ (by omega) (tC (snA y))
                refine hK _ _ ⟨hZ2, ?_⟩
                clear hK K hZ
                have hZ := hZ2
                clear hZ2
                try simp only [Act.put, List.setIfInBounds_toArray, List.set_cons_zero, List.set_cons_succ]
                refine gs_done (by kernel_rfl) ?_
                obtain ⟨W4, hW4⟩ : ∃ W, W = (((wd.alloc (.cells zT 26)).alloc (.cells zT 26)).setRow (wd.heap.size + 1) (tC (snA x))).setRow (wd.heap.size) (tC (snA y)) := ⟨_, rfl⟩
                have q15 : W4.heap[wd.heap.size + 1]? = some (.cells (tC (snA x)) 26 (0, 0)) := by rw [hW4, setRow_other _ _ _ _ (by omega)]; exact setRow_heap _ _ _ _ _ _ qz2.out
                have q16 : W4.heap[wd.heap.size]? = some (.cells (tC (snA y)) 26 (0, 0)) := by rw [hW4]; exact setRow_heap _ _ _ _ _ _ (show (((wd.alloc (.cells zT 26)).alloc (.cells zT 26)).setRow (wd.heap.size + 1) (tC (snA x))).heap[wd.heap.size]? = some (.cells zT 26 (0, 0)) by rw [setRow_other _ _ _ _ (by omega)]; exact qz1.out)
                have gn : Below wd.heap.size wd W4 := by rw [hW4]; exact below_row (below_row (((Below.refl _ _).alloc (Nat.le_refl _) _).alloc (by simp) _) (by omega) _) (by omega) _
                have hS := chain hSd gn
                have hL := chain hLd gn
                go_wp2_with fail
                rw [← hW4]
                clear hW4 gn hb hci hcj
                refine g_start (by kernel_rfl) ?_
                refine g_take (i := 0) (d := (some 102)) (v := ?_) rfl rfl (by kernel_rfl) (fun _ _ _ h => h) (by rfl) (fun w' hb' => ?_) ?_
                rotate_left
                · (try go_simp); (try with_reducible rfl)
                try simp only [Act.put, List.setIfInBounds_toArray, List.set_cons_zero, List.set_cons_succ]
                refine g_take (i := 1) (d := (some 103)) (v := ?_) rfl rfl (by kernel_rfl) (fun _ _ _ h => h) (by rfl) (fun w' hb' => ?_) ?_
                rotate_left
                · (try go_simp); (try with_reducible rfl)
                try simp only [Act.put, List.setIfInBounds_toArray, List.set_cons_zero, List.set_cons_succ]
                refine g_take (i := 2) (d := (some 104)) (v := ?_) rfl rfl (by kernel_rfl) (fun _ _ _ h => h) (by rfl) (fun w' hb' => ?_) ?_
                rotate_left
                · (try go_simp); (try with_reducible rfl)
                try simp only [Act.put, List.setIfInBounds_toArray, List.set_cons_zero, List.set_cons_succ]
                refine g_take (i := 3) (d := (some 105)) (v := ?_) rfl rfl (by kernel_rfl) (fun _ _ _ h => h) (by rfl) (fun w' hb' => ?_) ?_
                rotate_left
                · have zz := (hb'.cell (p := ⟨wd.heap.size + 1, 16 + k, none⟩) (lt_of_block q15)).trans ((block_cell q15 (16 + k)).trans VX.out); have zy := zz; rw [Nat.add_comm 16 k] at zy; (try go_simp); (try with_reducible rfl)
                try simp only [Act.put, List.setIfInBounds_toArray, List.set_cons_zero, List.set_cons_succ]
                refine g_take (i := 4) (d := (some 106)) (v := ?_) rfl rfl (by kernel_rfl) (fun _ _ _ h => h) (by rfl) (fun w' hb' => ?_) ?_
                rotate_left
                · (try go_simp); (try with_reducible rfl)
                try simp only [Act.put, List.setIfInBounds_toArray, List.set_cons_zero, List.set_cons_succ]
                refine g_take (i := 5) (d := (some 107)) (v := ?_) rfl rfl (by kernel_rfl) (fun _ _ _ h => h) (by rfl) (fun w' hb' => ?_) ?_
                rotate_left
                · (try go_simp); (try with_reducible rfl)
                try simp only [Act.put, List.setIfInBounds_toArray, List.set_cons_zero, List.set_cons_succ]
                refine g_take (i := 6) (d := (some 108)) (v := ?_) rfl rfl (by kernel_rfl) (fun _ _ _ h => h) (by rfl) (fun w' hb' => ?_) ?_
                rotate_left
                · (try go_simp); (try with_reducible rfl)
                try simp only [Act.put, List.setIfInBounds_toArray, List.set_cons_zero, List.set_cons_succ]
                refine g_take (i := 7) (d := (some 109)) (v := ?_) rfl rfl (by kernel_rfl) (fun _ _ _ h => h) (by rfl) (fun w' hb' => ?_) ?_
                rotate_left
                · have zz := (hb'.cell (p := ⟨wd.heap.size, 16 + k, none⟩) (lt_of_block q16)).trans ((block_cell q16 (16 + k)).trans VY.out); have zy := zz; rw [Nat.add_comm 16 k] at zy; (try go_simp); (try with_reducible rfl)
                try simp only [Act.put, List.setIfInBounds_toArray, List.set_cons_zero, List.set_cons_succ]
                refine g_take (i := 8) (d := (some 110)) (v := ?_) rfl rfl (by kernel_rfl) (fun _ _ _ h => h) (by rfl) (fun w' hb' => ?_) ?_
                rotate_left
                · (try go_simp); (try with_reducible rfl)
                try simp only [Act.put, List.setIfInBounds_toArray, List.set_cons_zero, List.set_cons_succ]
                refine g_take (i := 9) (d := (some 111)) (v := ?_) rfl rfl (by kernel_rfl) (fun _ _ _ h => h) (by rfl) (fun w' hb' => ?_) ?_
                rotate_left
                · (try go_simp); (try with_reducible rfl)
                try simp only [Act.put, List.setIfInBounds_toArray, List.set_cons_zero, List.set_cons_succ]
                refine g_skip (i := 10) (d := (some 112)) rfl rfl (by kernel_rfl) (fun _ _ _ h => h) (by rfl) ?_
                try simp only [Act.put, List.setIfInBounds_toArray, List.set_cons_zero, List.set_cons_succ]
                refine g_skip (i := 11) (d := (some 113)) rfl rfl (by kernel_rfl) (fun _ _ _ h => h) (by rfl) ?_
                try simp only [Act.put, List.setIfInBounds_toArray, List.set_cons_zero, List.set_cons_succ]
                refine g_skip (i := 12) (d := (some 114)) rfl rfl (by kernel_rfl) (fun _ _ _ h => h) (by rfl) ?_
                try simp only [Act.put, List.setIfInBounds_toArray, List.set_cons_zero, List.set_cons_succ]
                refine g_skip (i := 13) (d := (some 115)) rfl rfl (by kernel_rfl) (fun _ _ _ h => h) (by rfl) ?_
                try simp only [Act.put, List.setIfInBounds_toArray, List.set_cons_zero, List.set_cons_succ]
                refine g_skip (i := 14) (d := (some 116)) rfl rfl (by kernel_rfl) (fun _ _ _ h => h) (by rfl) ?_
                try simp only [Act.put, List.setIfInBounds_toArray, List.set_cons_zero, List.set_cons_succ]
                refine g_skip (i := 15) (d := (some 117)) rfl rfl (by kernel_rfl) (fun _ _ _ h => h) (by rfl) ?_
                try simp only [Act.put, List.setIfInBounds_toArray, List.set_cons_zero, List.set_cons_succ]
                refine g_skip (i := 16) (d := (some 118)) rfl rfl (by kernel_rfl) (fun _ _ _ h => h) (by rfl) ?_
                try simp only [Act.put, List.setIfInBounds_toArray, List.set_cons_zero, List.set_cons_succ]
                refine g_skip (i := 17) (d := (some 119)) rfl rfl (by kernel_rfl) (fun _ _ _ h => h) (by rfl) ?_
                try simp only [Act.put, List.setIfInBounds_toArray, List.set_cons_zero, List.set_cons_succ]
                refine g_skip (i := 18) (d := (some 120)) rfl rfl (by kernel_rfl) (fun _ _ _ h => h) (by rfl) ?_
                try simp only [Act.put, List.setIfInBounds_toArray, List.set_cons_zero, List.set_cons_succ]
                refine g_skip (i := 19) (d := (some 121)) rfl rfl (by kernel_rfl) (fun _ _ _ h => h) (by rfl) ?_
                try simp only [Act.put, List.setIfInBounds_toArray, List.set_cons_zero, List.set_cons_succ]
                refine g_take (i := 20) (d := (some 122)) (v := ?_) rfl rfl (by kernel_rfl) (fun _ _ _ h => h) (by rfl) (fun w' hb' => ?_) ?_
                rotate_left
                · (try go_simp); (try with_reducible rfl)
                try simp only [Act.put, List.setIfInBounds_toArray, List.set_cons_zero, List.set_cons_succ]
                refine g_done (by kernel_rfl) ?_
                have hS := hS.drew
                have hL := hL.drew
                have own9 := own_keep OWNC.out hL
                obtain ⟨gc, cc, hvc⟩ : ∃ g c, Value.slice a3 UL.length c3 = .slice (some ⟨g, 0, none⟩) UL.length c := by
                  rcases own9.2 with ⟨_, h0⟩ | ⟨g, c, cur, h1, _⟩
                  · have := HLN.out; omega
                  · exact ⟨g, c, h1⟩
                injection hvc with e1 e2 e3
                subst e1
                clear e2
                subst e3
                have cc9 := own9.cellAt n (by have := HLN.out; omega)
                rw [List.getElem?_map, List.getElem?_eq_getElem HLN.out, Option.map_some, HUK.out] at cc9
                have fn : (n : Int) < UL.length := by have := HLN.out; omega
                have fn2 : decide ((UL.length : Int) ≤ (n : Int)) = false := decide_eq_false (by omega)
                have fn3 : IntKind.i64.wrap ((n : Int) + 1) = ((n + 1 : Nat) : Int) := by rw [IntKind.wrap_i64]; omega
                clear own9
                go_wp2_with fail
                exact ⟨⟨k + 1, n + 1, by omega, by push_cast; rfl, by push_cast; rfl, HNX.out, hL⟩, by simp [intOf]; omega⟩
        
          · obtain rfl : k = 16 := by omega
            have HNE := Lib.hid (show n = UL.length by rw [HUL.out]; exact HN.out)
            have e9 : ((n : Int) == (UL.length : Int)) = true := by rw [HNE.out]; simp
            have d9 : decide ((n : Int) = (UL.length : Int)) = true := by rw [HNE.out]; simp
            clear HN
            go_wp2_with fail
            refine (AW.out _ hS).mono ?_
            rintro e wz ⟨rfl, g⟩
            have hS := chain hS g
            clear g
            go_wp2_with fail
            go_ret
            exact ⟨rfl, chain BW.out hS⟩
      · obtain ⟨hb6, hbx⟩ := fb2 hb
        have HAH := Lib.hid ha
        have HBH := Lib.hid hb
        have HB6 := Lib.hid hb6
        have HIX := Lib.hid hix
        have HJX := Lib.hid hbx
        have d0 : decide ((i : Int) < 0) = false := decide_eq_false (by omega)
        clear fa1 fa2 fb1 fb2 ha hb hb6 hix hbx hiq
        go_wp2_with fail
        refine (DR.out _ hS).mono ?_
        rintro e w2 ⟨-, hd, g⟩
        obtain ⟨v2, rfl, own2⟩ := hd HI.out
        rw [← HDL.out] at own2
        obtain ⟨a2, n2, c2, rfl⟩ := own_slice own2
        obtain rfl := own_count own2
        have hS := chain hS g
        have RK2 := Lib.hid (own_rdk snC_len own2)
        clear g hd own2
        have h2 := Below.refl w2.heap.size w2
        go_wp2_with fail
        refine (CH.out _ hS).mono ?_
        rintro e w3 ⟨hc1, hc2, hc3, g⟩
        obtain rfl := hc2 HAH.out HBH.out
        rw [HB6.out]
        have hS := chain hS g
        have h2 := chain h2 g
        clear g hc1 hc2 hc3
        go_wp2_with fail
        refine (IS.out _ hS).mono ?_
        rintro e w4 ⟨rfl, g⟩
        have hS := chain hS g
        have h2 := chain h2 g
        clear g
        go_wp2_with fail
        refine (RD.out _ hS).mono ?_
        rintro e w5 ⟨v5, rfl, own5, g⟩
        rw [HDF.out] at own5
        obtain ⟨a5, n5, c5, rfl⟩ := own_slice own5
        obtain rfl := own_count own5
        have hS := chain hS g
        have h2 := chain h2 g
        clear g
        have SM := Lib.hid (same14_yes _ _ DL DL w5 (RK2.out.below h2 (Nat.le_refl _)) (own_rdk snC_len own5) (HDS.out _ (RS.out.below hS (Nat.le_refl _))) (HDS.out _ (RS.out.below hS (Nat.le_refl _))) HDN.out (eqSn_refl _) HD8.out)
        clear own5
        go_wp2_with fail
        refine SM.out.mono ?_
        rintro e w6 ⟨rfl, g⟩
        have hS := chain hS g
        clear g SM
        go_wp2_with fail
        refine (IX.out _ hS a).mono ?_
        rintro e w7 ⟨rfl, rfl⟩
        rw [HIX.out]
        go_wp2_with fail
        refine (IX.out _ hS b).mono ?_
        rintro e w8 ⟨rfl, rfl⟩
        rw [HJX.out]
        go_wp2_with fail
        refine (AW.out _ hS).mono ?_
        rintro e wz ⟨rfl, g⟩
        have hS := chain hS g
        clear g
        go_wp2_with fail
        go_ret
        exact ⟨rfl, chain BW.out hS⟩
    · obtain ⟨ha6, hax⟩ := fa2 ha
      have HAH := Lib.hid ha
      have HA6 := Lib.hid ha6
      have HIX := Lib.hid hax
      obtain ⟨jx, hjx⟩ : ∃ j, j = ixQ L1 b := ⟨_, rfl⟩
      have HJX := Lib.hid hjx.symm
      clear fa1 fa2 fb1 fb2 ha ha6 hax hjx
      go_wp2_with fail
      refine (DR.out _ hS).mono ?_
      rintro e w2 ⟨-, hd, g⟩
      obtain ⟨v2, rfl, own2⟩ := hd HI.out
      rw [← HDL.out] at own2
      obtain ⟨a2, n2, c2, rfl⟩ := own_slice own2
      obtain rfl := own_count own2
      have hS := chain hS g
      have RK2 := Lib.hid (own_rdk snC_len own2)
      clear g hd own2
      have h2 := Below.refl w2.heap.size w2
      go_wp2_with fail
      refine (CH.out _ hS).mono ?_
      rintro e w3 ⟨hc1, hc2, hc3, g⟩
      obtain rfl := hc1 HAH.out
      rw [HA6.out]
      have hS := chain hS g
      have h2 := chain h2 g
      clear g hc1 hc2 hc3
      go_wp2_with fail
      refine (IS.out _ hS).mono ?_
      rintro e w4 ⟨rfl, g⟩
      have hS := chain hS g
      have h2 := chain h2 g
      clear g
      go_wp2_with fail
      refine (RD.out _ hS).mono ?_
      rintro e w5 ⟨v5, rfl, own5, g⟩
      rw [HDF.out] at own5
      obtain ⟨a5, n5, c5, rfl⟩ := own_slice own5
      obtain rfl := own_count own5
      have hS := chain hS g
      have h2 := chain h2 g
      clear g
      have SM := Lib.hid (same14_yes _ _ DL DL w5 (RK2.out.below h2 (Nat.le_refl _)) (own_rdk snC_len own5) (HDS.out _ (RS.out.below hS (Nat.le_refl _))) (HDS.out _ (RS.out.below hS (Nat.le_refl _))) HDN.out (eqSn_refl _) HD8.out)
      clear own5
      go_wp2_with fail
      refine SM.out.mono ?_
      rintro e w6 ⟨rfl, g⟩
      have hS := chain hS g
      clear g SM
      go_wp2_with fail
      refine (IX.out _ hS a).mono ?_
      rintro e w7 ⟨rfl, rfl⟩
      rw [HIX.out]
      go_wp2_with fail
      refine (IX.out _ hS b).mono ?_
      rintro e w8 ⟨rfl, rfl⟩
      rw [HJX.out]
      go_wp2_with fail
      refine (AW.out _ hS).mono ?_
      rintro e wz ⟨rfl, g⟩
      have hS := chain hS g
      clear g
      go_wp2_with fail
      go_ret
      exact ⟨rfl, chain BW.out hS⟩
theorem snapdrops_row (v : Value) (L : List Sn) (a b : Int) (w : World) (h : RdK 36 snC w v L) (hrs : RdSn w L) (hsz : SzSn L) (ha : (Lit.int .i64 a).wf = true) (hb : (Lit.int .i64 b).wf = true) (tab : TabAt w) :
    Calls Tryd.prog 11 #[v, .int .i64 a, .int .i64 b] w fun e w' => e = .returned (.bool true) ∧ Below w.heap.size w w' := snapdrops_any v L a b w tab h hrs hsz
end Go.Proofs.YtbdfcgffkonbiaaDoor
