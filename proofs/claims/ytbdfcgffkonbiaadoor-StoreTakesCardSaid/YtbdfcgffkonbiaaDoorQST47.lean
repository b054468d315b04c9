/- Stores: the document's Take. Written by wip/tools/gen13t.py. -/
import Derived.Test.YtbdfcgffkonbiaaDoorQST46
import Derived.Test.YtbdfcgffkonbiaaDoorQST36
namespace Go.Proofs.YtbdfcgffkonbiaaDoor
open Go Go.RowKit
set_option linter.unusedVariables false
set_option linter.unusedSimpArgs false
set_option maxRecDepth 100000 in
set_option maxHeartbeats 4000000 in
theorem refTake13_any (cs : Array Value) (s : St) (v : Value) (l : List Ed) (w : World) (tab : TabAt w) (h : RdS w cs s) (hsz : SzT s.lv) (hwf : WfT s.lv) (h100 : ∀ b, b < 16 → (s.lv b).length ≤ 100) (hl : RdE w v l) (hse : SzE l) (hwe : WfE l) :
    Calls Tryd.prog 35 #[.agg cs, v] w (TakeZ w cs s l) := by
  obtain ⟨ao, cap, rfl, hcp, hmx, hr0⟩ := RdK.open hl
  have hl : RdE w (.slice ao l.length cap) l := hr0
  clear hr0
  have HBZ := Lib.hid hb_zero
  have z0 := zeroS_run
  have z1 := zS_ne
  have y0 := zeroT_run
  have y1 := zT_ne
  have hs := h.size
  have hi := infoS h.size
  obtain ⟨q1, q2, z4, -⟩ := two_allocs w (.cells cs 28) (.cells zS 28)
  have bel : Below w.heap.size w ((w.alloc (.cells cs 28)).alloc (.cells zS 28)) := ((Below.refl _ w).alloc (Nat.le_refl _) _).alloc (by simp) _
  have MY0 := fun W (g : Below w.heap.size w W) => refMay13_any cs s W (tab.below g) (h.below g (Nat.le_refl _)) hsz hwf h100
  obtain ⟨Z, hZ⟩ : ∃ Z, Z = TakeZ w cs s l := ⟨_, rfl⟩
  rw [← hZ]
  have HZ := Lib.hid hZ
  obtain ⟨V, hV⟩ : ∃ V, V = s.ver := ⟨_, rfl⟩
  have HV := Lib.hid (show cs[32]? = some (.int .i64 V) by rw [hV]; exact h.ver)
  have HVE := Lib.hid hV
  have HR := Lib.hid h
  have HL := Lib.hid hl
  have HSE := Lib.hid hse
  have HWE := Lib.hid hwe
  have HTB := Lib.hid tab
  have HSZ := Lib.hid hsz
  have HWF := Lib.hid hwf
  clear hZ z4 h hsz hwf h100 tab hV hl hse hwe
  cases hm : mayS s with
  | false =>
    rw [hm] at MY0
    have MY := Lib.hid MY0
    have HE := Lib.hid (show takeE s l = ((1, 0), stQ) from take_arg (by unfold okS; rw [hm]; rfl))
    clear MY0 hm
    go_enter Tryd.func35, Tryd.ntmps35
    go_wp2_with ((with_reducible refine wpList_load_row (o := ⟨some 14, _, _, _, _, _⟩) rfl 28 (.tmp 2) rfl _ rfl _ cs (0, 0) _ q1 Tryd.underlying28 rfl hi ?_))
    refine (MY.out _ bel).mono ?_
    rintro e w1 ⟨rfl, g⟩
    replace q1 := (g.block _ (lt_of_block q1)).trans q1
    replace q2 := (g.block _ (lt_of_block q2)).trans q2
    have c32 := (block_cell q1 32).trans HV.out
    replace bel := chain bel g
    clear g
    go_wp2_with (first | ((with_reducible refine wpList_buildV (o := ⟨some 22, _, _, _, _, _⟩) rfl 28 #[] rfl #[] rfl (.agg zS) (HBZ.out _) ?_)) | ((with_reducible refine wpList_store_row (o := ⟨none, _, _, _, _, _⟩) rfl 28 (.tmp 4) (.tmp 22) rfl _ zS rfl rfl _ zS q2 (infoS rfl) rfl zS_one ?_); (obtain ⟨WU, hWU⟩ : ∃ W, W = World.setRow w1 (w.heap.size + 1) zS := ⟨_, rfl⟩); rw [← hWU]; (have q9 : WU.heap[w.heap.size + 1]? = some (.cells zS 28 (0, 0)) := by rw [hWU]; exact setRow_heap _ _ _ _ _ _ q2); (have oU : ∀ k, k ≠ w.heap.size + 1 → WU.heap[k]? = w1.heap[k]? := by rw [hWU]; exact fun k hk => setRow_other _ _ _ _ hk); (have bU : Below w.heap.size w1 WU := by rw [hWU]; exact below_row (Below.refl _ _) (by omega) _); (have sU : WU.heap.size = w1.heap.size := by rw [hWU, setRow_size]); clear hWU))
    refine bodyPost_ret (v := .tuple #[.agg zS, .int .i64 1, .int .i64 0]) (results_ctt rfl _ _ _ _ _ _ rfl rfl rfl (lv_store q9 rfl)) rfl ?_
    rw [HZ.out]
    exact TakeZ.no HE.out (bel.trans bU)
  | true =>
    rw [hm] at MY0
    have MY := Lib.hid MY0
    have HM := Lib.hid hm
    clear MY0 hm
    by_cases hv : V = 2147483647
    · have tv : (V == 2147483647) = true := beq_iff_eq.2 hv
      have HE := Lib.hid (show takeE s l = ((1, 0), stQ) from take_arg (by unfold okS; rw [← HVE.out, hv]; simp))
      clear hv
      go_enter Tryd.func35, Tryd.ntmps35
      go_wp2_with ((with_reducible refine wpList_load_row (o := ⟨some 14, _, _, _, _, _⟩) rfl 28 (.tmp 2) rfl _ rfl _ cs (0, 0) _ q1 Tryd.underlying28 rfl hi ?_))
      refine (MY.out _ bel).mono ?_
      rintro e w1 ⟨rfl, g⟩
      replace q1 := (g.block _ (lt_of_block q1)).trans q1
      replace q2 := (g.block _ (lt_of_block q2)).trans q2
      have c32 := (block_cell q1 32).trans HV.out
      replace bel := chain bel g
      clear g
      go_wp2_with (first | ((with_reducible refine wpList_buildV (o := ⟨some 22, _, _, _, _, _⟩) rfl 28 #[] rfl #[] rfl (.agg zS) (HBZ.out _) ?_)) | ((with_reducible refine wpList_store_row (o := ⟨none, _, _, _, _, _⟩) rfl 28 (.tmp 4) (.tmp 22) rfl _ zS rfl rfl _ zS q2 (infoS rfl) rfl zS_one ?_); (obtain ⟨WU, hWU⟩ : ∃ W, W = World.setRow w1 (w.heap.size + 1) zS := ⟨_, rfl⟩); rw [← hWU]; (have q9 : WU.heap[w.heap.size + 1]? = some (.cells zS 28 (0, 0)) := by rw [hWU]; exact setRow_heap _ _ _ _ _ _ q2); (have oU : ∀ k, k ≠ w.heap.size + 1 → WU.heap[k]? = w1.heap[k]? := by rw [hWU]; exact fun k hk => setRow_other _ _ _ _ hk); (have bU : Below w.heap.size w1 WU := by rw [hWU]; exact below_row (Below.refl _ _) (by omega) _); (have sU : WU.heap.size = w1.heap.size := by rw [hWU, setRow_size]); clear hWU))
      refine bodyPost_ret (v := .tuple #[.agg zS, .int .i64 1, .int .i64 0]) (results_ctt rfl _ _ _ _ _ _ rfl rfl rfl (lv_store q9 rfl)) rfl ?_
      rw [HZ.out]
      exact TakeZ.no HE.out (bel.trans bU)
    · have tv : (V == 2147483647) = false := beq_eq_false_iff_ne.2 hv
      have HOK := Lib.hid (show okS s = true by unfold okS; rw [HM.out, decide_eq_true (by have h := (mayS_ver HM.out).2.1; have := HVE.out; omega)]; rfl)
      clear hv
      go_enter Tryd.func35, Tryd.ntmps35
      go_wp2_with ((with_reducible refine wpList_load_row (o := ⟨some 14, _, _, _, _, _⟩) rfl 28 (.tmp 2) rfl _ rfl _ cs (0, 0) _ q1 Tryd.underlying28 rfl hi ?_))
      refine (MY.out _ bel).mono ?_
      rintro e w1 ⟨rfl, g⟩
      replace q1 := (g.block _ (lt_of_block q1)).trans q1
      replace q2 := (g.block _ (lt_of_block q2)).trans q2
      have c32 := (block_cell q1 32).trans HV.out
      replace bel := chain bel g
      clear g
      go_wp2_with fail
      have HB1 := Lib.hid bel
      have Q1 := Lib.hid q1
      have Q2 := Lib.hid q2
      have hl4 := lt_of_block q2
      clear q1 q2 bel c32
      go_loopw [7] (fun i wr => ∃ k : Nat, k ≤ l.length ∧ i = .int .i64 (k : Int) ∧ Hid (badE l 0 = badE (l.drop k) k) ∧ Hid (Below w1.heap.size w1 wr)) (fun i _ => l.length + 1 - (intOf i).toNat)
      case atStart => exact ⟨0, Nat.zero_le _, rfl, Lib.hid rfl, Lib.hid (Below.refl _ _)⟩
      case round =>
        obtain ⟨k, hk, rfl, HBD, BR⟩ := hrel
        have BX := Lib.hid (chain HB1.out BR.out)
        by_cases hlt : k < l.length
        · have hlti : (k : Int) < (l.length : Int) := by omega
          have RL : RdE wr (.slice ao l.length cap) l := HL.out.below BX.out (Nat.le_refl _)
          obtain ⟨b, off, rfl, hb, hca0⟩ := RdK.cell edC_len RL k hlt
          obtain ⟨x, hx⟩ : ∃ x, x = l[k]'hlt := ⟨_, rfl⟩
          rw [← hx] at hca0
          obtain ⟨c0, c1, c2, c3⟩ := ed_cells (o := off + k * 4) (fun i hi => by rw [Nat.add_assoc]; exact hca0 i hi)
          have hxm : x ∈ l := by rw [hx]; exact List.getElem_mem _
          have ED0 := refEdit_any x wr (HTB.out.below BX.out) (HSE.out x hxm).1 (HSE.out x hxm).2
          have HXE := Lib.hid hx
          unfold edV at ED0
          clear hca0 RL hx hxm
          cases hme : mayE x with
          | false =>
            have HE := Lib.hid (show takeE s l = ((1, k), stQ) from take_bad HOK.out (HBD.out.trans (bad_no hlt (by rw [← HXE.out]; exact hme))))
            rw [hme] at ED0
            have ED := Lib.hid ED0
            clear ED0 hme
            go_wp2_with fail
            refine ED.out.mono ?_
            rintro e w2 ⟨rfl, g⟩
            have gg := BR.out.trans (g.mono BR.out.size)
            have q2 := (gg.block _ (lt_of_block Q2.out)).trans Q2.out
            have HG := Lib.hid (HB1.out.trans (gg.mono HB1.out.size))
            clear g gg
            go_wp2_with (first | ((with_reducible refine wpList_buildV (o := ⟨some 35, _, _, _, _, _⟩) rfl 28 #[] rfl #[] rfl (.agg zS) (HBZ.out _) ?_)) | ((with_reducible refine wpList_store_row (o := ⟨none, _, _, _, _, _⟩) rfl 28 (.tmp 4) (.tmp 35) rfl _ zS rfl rfl _ zS q2 (infoS rfl) rfl zS_one ?_); (obtain ⟨WU, hWU⟩ : ∃ W, W = World.setRow w2 (w.heap.size + 1) zS := ⟨_, rfl⟩); rw [← hWU]; (have q9 : WU.heap[w.heap.size + 1]? = some (.cells zS 28 (0, 0)) := by rw [hWU]; exact setRow_heap _ _ _ _ _ _ q2); (have oU : ∀ k, k ≠ w.heap.size + 1 → WU.heap[k]? = w2.heap[k]? := by rw [hWU]; exact fun k hk => setRow_other _ _ _ _ hk); (have bU : Below w.heap.size w2 WU := by rw [hWU]; exact below_row (Below.refl _ _) (by omega) _); (have sU : WU.heap.size = w2.heap.size := by rw [hWU, setRow_size]); clear hWU))
            refine bodyPost_ret (v := .tuple #[.agg zS, .int .i64 1, .int .i64 k]) (results_ctt rfl _ _ _ _ _ _ rfl rfl rfl (lv_store q9 rfl)) rfl ?_
            rw [HZ.out]
            exact TakeZ.no HE.out (HG.out.trans bU)
          | true =>
            have HBN := Lib.hid (show badE l 0 = badE (l.drop (k + 1)) (k + 1) from HBD.out.trans (bad_yes hlt (by rw [← HXE.out]; exact hme)))
            rw [hme] at ED0
            have ED := Lib.hid ED0
            clear ED0 hme
            go_wp2_with fail
            refine ED.out.mono ?_
            rintro e w2 ⟨rfl, g⟩
            have HG := Lib.hid (BR.out.trans (g.mono BR.out.size))
            clear g
            go_wp2_with fail
            exact ⟨⟨k + 1, by omega, by push_cast; rfl, HBN, HG⟩, by simp [intOf]; omega⟩
        · obtain rfl : k = l.length := by omega
          have HBX := Lib.hid (show badE l 0 = none from HBD.out.trans (bad_end (Nat.le_refl _)))
          have q1 := (BR.out.block _ (lt_of_block Q1.out)).trans Q1.out
          have c32 := (block_cell q1 32).trans HV.out
          have f32 := block_frozen q1 32
          have hV1 : 0 ≤ V ∧ V ≤ 2147483646 := by have h1 := mayS_ver HM.out; have h2 := okS_lt HOK.out; rw [← HVE.out] at h1 h2; omega
          obtain ⟨V1, hV1e⟩ : ∃ V1, V1 = V + 1 := ⟨_, rfl⟩
          have hw1 : IntKind.i64.wrap (V + 1) = V1 := by rw [IntKind.wrap_i64]; omega
          have HV1 := Lib.hid hV1e
          clear hV1 hV1e
          go_wp2_with fail
          obtain ⟨W2, hW2⟩ : ∃ W, W = wr.setCell ⟨w.heap.size, 32, none⟩ (.int .i64 V1) := ⟨_, rfl⟩
          rw [← hW2]
          have TK := Lib.hid (tr_start HR.out HOK.out HSZ.out HWF.out (by rw [HV1.out, HVE.out]) hW2 BX.out q1 ((BR.out.block _ (lt_of_block Q2.out)).trans Q2.out) l)
          have BL2 := Lib.hid (show Below w.heap.size w W2 by rw [hW2]; exact BX.out.setCell (p := ⟨w.heap.size, 32, none⟩) (Nat.le_refl _) _)
          clear hW2 q1 c32 f32 hw1 HB1 Q1 Q2 hl4 HBD BR BX
          go_loopw [8] (fun i wx => ∃ (k : Nat) (C : Array Value) (lv : Nat → List It) (vs : Nat → Int), k ≤ l.length ∧ i = .int .i64 (k : Int) ∧ Hid (Tr (fun P => SafeP P w (tC cs) s.lv s.vs) w.heap.size s V1 l k C lv vs wx) ∧ Hid (Below w.heap.size w wx)) (fun i _ => l.length + 1 - (intOf i).toNat)
          case atStart => exact ⟨0, _, _, _, Nat.zero_le _, rfl, TK, BL2⟩
          case round =>
            clear TK BL2
            obtain ⟨k, C, lv, vs, hk, rfl, TK, BX⟩ := hrel
            by_cases hlt : k < l.length
            · skip
              have HV2 := Lib.hid (verB_iff.1 TK.out.vr)
              have hlti : (k : Int) < (l.length : Int) := by omega
              have RL : RdE wr (.slice ao l.length cap) l := HL.out.below BX.out (Nat.le_refl _)
              obtain ⟨b, off, rfl, hb, hca0⟩ := RdK.cell edC_len RL k hlt
              obtain ⟨x, hx⟩ : ∃ x, x = l[k]'hlt := ⟨_, rfl⟩
              rw [← hx] at hca0
              obtain ⟨c0, c1, c2, c3⟩ := ed_cells (o := off + k * 4) (fun i hi => by rw [Nat.add_assoc]; exact hca0 i hi)
              have hxm : x ∈ l := by rw [hx]; exact List.getElem_mem _
              have bA := (Below.refl wr.heap.size wr).alloc (Nat.le_refl _) (.cells #[.string (str x.key), .int .i64 x.v.k, .int .i64 x.v.i, .string (str x.v.s)] 68)
              have qe := heap_alloc_new wr (.cells #[.string (str x.key), .int .i64 x.v.k, .int .i64 x.v.i, .string (str x.v.s)] 68)
              have BF := Lib.hid (chain BX.out bA)
              have hsC := TK.out.size
              have hln : w.heap.size + 1 < wr.heap.size := lt_of_block TK.out.q2
              have q1 := (bA.block _ (by omega)).trans TK.out.q1
              have q2 := (bA.block _ (by omega)).trans TK.out.q2
              have d32 := (block_cell q1 32).trans TK.out.c32
              have SA := Lib.hid (fun P hP hQ => (TK.out.safe P hP hQ).below bA)
              have SA0 := Lib.hid (SA.out _ (fun _ h => h.elim) TK.out.none).rd
              have hme := bad_none HBX.out x hxm
              have HXE := Lib.hid hx
              have HXM := Lib.hid hxm
              have BA := Lib.hid bA
              have HSX := Lib.hid (HSE.out x hxm)
              clear hca0 RL hx hxm bA
              by_cases k0 : x.v.k = 0
              · have tk : (x.v.k == 0) = true := by rw [k0]; rfl
                have DL := Lib.hid (refDel10_any (tC C) lv vs x.key V1 _ (HTB.out.below BF.out) SA0.out TK.out.gt.sz TK.out.gt.may TK.out.vr HSX.out.1)
                have HK := Lib.hid k0
                clear k0 hme
                go_wp2_with ((with_reducible refine wpList_load_part (o := ⟨some 57, _, _, _, _, _⟩) rfl 26 (.tmp 56) rfl _ 0 rfl (tC C) _ (tC_range q1) Tryd.underlying26 rfl (tC_infoA hsC) ?_))
                refine DL.out.mono ?_
                intro e w3 hP
                unfold DelP at hP
                by_cases hd : delTE lv vs x.key V1 = 0
                · rw [if_pos hd] at hP
                  obtain ⟨ct, rfl, hct, hone, HS, g⟩ := trO_safe (bkN_lt _) SA0.out hP
                  obtain ⟨he, e2, e3⟩ := apDel (lv := lv) (vs := vs) (x := x) (ver := V1) HK.out hd
                  rw [← e2, ← e3] at HS
                  replace q1 := (g.block _ (lt_of_block q1)).trans q1
                  replace q2 := (g.block _ (lt_of_block q2)).trans q2
                  have HG := Lib.hid (BA.out.trans (g.mono BA.out.size))
                  have hl1 := lt_of_block q1
                  have HD := Lib.hid (And.intro he HS)
                  clear e2 e3 hP he HS hd DL
                  go_wp2_with (first | ((with_reducible refine wpList_load_row (o := ⟨some 67, _, _, _, _, _⟩) rfl 26 (.tmp 10) rfl _ rfl _ ct (0, 0) _ q9 Tryd.underlying26 rfl (infoTc hct) ?_)) | ((with_reducible refine wpList_store_mid (op := ⟨none, _, _, _, _, _⟩) rfl 26 (.tmp 68) (.tmp 67) rfl _ 0 ct rfl rfl (there_of (show WT.heap[w.heap.size]? = some (.cells C 28 (0, 0)) from (o9 _ (lt_of_block q1)).trans q1) (by rw [hct, hsC]; decide)) (infoTc hct) hone ?_)) | ((with_reducible refine wpList_store_row (o := ⟨none, _, _, _, _, _⟩) rfl 26 (.tmp 10) (.tmp 63) rfl _ ct rfl rfl _ zT (heap_alloc_new w3 (.cells zT 26)) (infoTc hct) (zT_size.trans hct.symm) hone ?_); (obtain ⟨WT, hWT⟩ : ∃ W, W = World.setRow (w3.alloc (.cells zT 26)) w3.heap.size ct := ⟨_, rfl⟩); rw [← hWT]; (obtain ⟨q9, o9, l9, b9⟩ := row_facts (n := 0) (m := 0) hWT); clear hWT))
                  obtain ⟨he, HS⟩ := HD.out
                  have TK2 := Lib.hid (tr_next TK.out (by rw [← HXE.out]) he (bad_none HBX.out x HXM.out) (HWE.out x HXM.out) ((BA.out.trans (g.mono BA.out.size)).trans (b9.mono (BA.out.trans (g.mono BA.out.size)).size)) hct (fun P hP hQ => (HS.out _ (own2_lt hP (by have := BA.out.size; omega)) (SA.out P hP hQ)).below b9))
                  have BN := Lib.hid (sets_below (Nat.le_refl w.heap.size) ct.toList 0 _ ((chain BF.out g).trans (b9.mono (chain BF.out g).size)))
                  exact ⟨⟨k + 1, _, _, _, by omega, by push_cast; rfl, TK2, BN⟩, by simp [intOf]; omega⟩
                · rw [if_neg hd] at hP
                  obtain ⟨rfl, g⟩ := hP
                  obtain ⟨he, e2, e3⟩ := apNo (lv := lv) (vs := vs) (x := x) (ver := V1) HK.out hd
                  have hd2 : (((delTE lv vs x.key V1 : Nat) : Int) == 0) = false := by rw [beq_eq_false_iff_ne]; omega
                  obtain ⟨c, hc⟩ : ∃ c, c = delTE lv vs x.key V1 := ⟨_, rfl⟩
                  rw [← hc] at hd2 ⊢
                  have HD := Lib.hid (And.intro he (And.intro e2 e3))
                  have HG := Lib.hid (BA.out.trans (g.mono BA.out.size))
                  clear hc hd he e2 e3 DL
                  go_wp2_with ((with_reducible refine wpList_store_row (o := ⟨none, _, _, _, _, _⟩) rfl 26 (.tmp 10) (.tmp 63) rfl _ zT rfl rfl _ zT (heap_alloc_new w3 (.cells zT 26)) (infoTc zT_size) (zT_size.trans zT_size.symm) zT_one ?_); (obtain ⟨WT, hWT⟩ : ∃ W, W = World.setRow (w3.alloc (.cells zT 26)) w3.heap.size zT := ⟨_, rfl⟩); rw [← hWT]; (obtain ⟨q9, o9, l9, b9⟩ := row_facts (n := 0) (m := 0) hWT); clear hWT)
                  have TK2 := Lib.hid (tr_same TK.out (hlt := hlt) (by rw [← HXE.out]) HD.out.1 HD.out.2.1 HD.out.2.2 (HG.out.trans (b9.mono HG.out.size)))
                  have BN := Lib.hid ((chain BF.out g).trans (b9.mono (chain BF.out g).size))
                  exact ⟨⟨k + 1, _, _, _, by omega, by push_cast; rfl, TK2, BN⟩, by simp [intOf]; omega⟩
              · have tk : (x.v.k == 0) = false := beq_eq_false_iff_ne.2 k0
                have PU := Lib.hid (refPut10_any (tC C) lv vs (edI x V1) _ (HTB.out.below BF.out) SA0.out TK.out.gt.sz TK.out.gt.may (mayE_it hme k0 TK.out.vr) HSX.out.1)
                have HK := Lib.hid k0
                clear k0 hme
                unfold itV at PU
                go_wp2_with ((with_reducible refine wpList_load_part (o := ⟨some 71, _, _, _, _, _⟩) rfl 26 (.tmp 70) rfl _ 0 rfl (tC C) _ (tC_range q1) Tryd.underlying26 rfl (tC_infoA hsC) ?_))
                refine PU.out.mono ?_
                intro e w3 hP
                unfold PutP at hP
                by_cases hd : putTE lv vs (edI x V1) = 0
                · rw [if_pos hd] at hP
                  obtain ⟨ct, rfl, hct, hone, HS, g⟩ := trO_safe (bkN_lt _) SA0.out hP
                  obtain ⟨e1, e2, e3⟩ := apPut (lv := lv) (vs := vs) (x := x) (ver := V1) HK.out
                  have e2' : upd lv (bkN (edI x V1).key) (withL (lv (bkN (edI x V1).key)) (edI x V1)) = apLv lv vs x V1 := e2.symm
                  have e3' : upd vs (bkN (edI x V1).key) (edI x V1).ver = apVs lv vs x V1 := e3.symm
                  rw [e2', e3'] at HS
                  have he : apE lv vs x V1 = 0 := e1.trans hd
                  replace q1 := (g.block _ (lt_of_block q1)).trans q1
                  replace q2 := (g.block _ (lt_of_block q2)).trans q2
                  have HG := Lib.hid (BA.out.trans (g.mono BA.out.size))
                  have hl1 := lt_of_block q1
                  have HD := Lib.hid (And.intro he HS)
                  clear e1 e2 e3 e2' e3' hP he HS hd PU
                  go_wp2_with (first | ((with_reducible refine wpList_load_row (o := ⟨some 87, _, _, _, _, _⟩) rfl 26 (.tmp 12) rfl _ rfl _ ct (0, 0) _ q9 Tryd.underlying26 rfl (infoTc hct) ?_)) | ((with_reducible refine wpList_store_mid (op := ⟨none, _, _, _, _, _⟩) rfl 26 (.tmp 88) (.tmp 87) rfl _ 0 ct rfl rfl (there_of (show WT.heap[w.heap.size]? = some (.cells C 28 (0, 0)) from (o9 _ (lt_of_block q1)).trans q1) (by rw [hct, hsC]; decide)) (infoTc hct) hone ?_)) | ((with_reducible refine wpList_store_row (o := ⟨none, _, _, _, _, _⟩) rfl 26 (.tmp 12) (.tmp 80) rfl _ ct rfl rfl _ zT (heap_alloc_new w3 (.cells zT 26)) (infoTc hct) (zT_size.trans hct.symm) hone ?_); (obtain ⟨WT, hWT⟩ : ∃ W, W = World.setRow (w3.alloc (.cells zT 26)) w3.heap.size ct := ⟨_, rfl⟩); rw [← hWT]; (obtain ⟨q9, o9, l9, b9⟩ := row_facts (n := 0) (m := 0) hWT); clear hWT))
                  obtain ⟨he, HS⟩ := HD.out
                  have TK2 := Lib.hid (tr_next TK.out (by rw [← HXE.out]) he (bad_none HBX.out x HXM.out) (HWE.out x HXM.out) ((BA.out.trans (g.mono BA.out.size)).trans (b9.mono (BA.out.trans (g.mono BA.out.size)).size)) hct (fun P hP hQ => (HS.out _ (own2_lt hP (by have := BA.out.size; omega)) (SA.out P hP hQ)).below b9))
                  have BN := Lib.hid (sets_below (Nat.le_refl w.heap.size) ct.toList 0 _ ((chain BF.out g).trans (b9.mono (chain BF.out g).size)))
                  exact ⟨⟨k + 1, _, _, _, by omega, by push_cast; rfl, TK2, BN⟩, by simp [intOf]; omega⟩
                · rw [if_neg hd] at hP
                  obtain ⟨rfl, g⟩ := hP
                  have he : apE lv vs x V1 = putTE lv vs (edI x V1) := (apPut HK.out).1
                  have hd2 : (((putTE lv vs (edI x V1) : Nat) : Int) != 0) = true := by rw [bne_iff_ne]; omega
                  have HE := Lib.hid (show takeE s l = ((putTE lv vs (edI x V1), k), stQ) from take_err HOK.out HBX.out (by rw [← TK.out.ve, TK.out.go, go_no hlt (by rw [← HXE.out, he]; exact hd), ← HXE.out, he]) hd)
                  obtain ⟨c, hc⟩ : ∃ c, c = putTE lv vs (edI x V1) := ⟨_, rfl⟩
                  rw [← hc] at hd2 HE ⊢
                  replace q1 := (g.block _ (lt_of_block q1)).trans q1
                  replace q2 := (g.block _ (lt_of_block q2)).trans q2
                  have hl2 := lt_of_block q2
                  have HG := Lib.hid (chain BX.out (BA.out.trans (g.mono BA.out.size)))
                  clear hc hd he PU g
                  go_wp2_with (first | ((with_reducible refine wpList_buildV (o := ⟨some 84, _, _, _, _, _⟩) rfl 28 #[] rfl #[] rfl (.agg zS) (HBZ.out _) ?_)) | ((with_reducible refine wpList_store_row (o := ⟨none, _, _, _, _, _⟩) rfl 28 (.tmp 4) (.tmp 84) rfl _ zS rfl rfl _ zS ((o9 _ hl2).trans q2) (infoS rfl) rfl zS_one ?_); (obtain ⟨WU, hWU⟩ : ∃ W, W = World.setRow WT (w.heap.size + 1) zS := ⟨_, rfl⟩); rw [← hWU]; (have q9 : WU.heap[w.heap.size + 1]? = some (.cells zS 28 (0, 0)) := by rw [hWU]; exact setRow_heap _ _ _ _ _ _ ((o9 _ hl2).trans q2)); (have oU : ∀ k, k ≠ w.heap.size + 1 → WU.heap[k]? = WT.heap[k]? := by rw [hWU]; exact fun k hk => setRow_other _ _ _ _ hk); (have bU : Below w.heap.size WT WU := by rw [hWU]; exact below_row (Below.refl _ _) (by omega) _); (have sU : WU.heap.size = WT.heap.size := by rw [hWU, setRow_size]); clear hWU) | ((with_reducible refine wpList_store_row (o := ⟨none, _, _, _, _, _⟩) rfl 26 (.tmp 12) (.tmp 80) rfl _ zT rfl rfl _ zT (heap_alloc_new w3 (.cells zT 26)) (infoTc zT_size) (zT_size.trans zT_size.symm) zT_one ?_); (obtain ⟨WT, hWT⟩ : ∃ W, W = World.setRow (w3.alloc (.cells zT 26)) w3.heap.size zT := ⟨_, rfl⟩); rw [← hWT]; (obtain ⟨q9, o9, l9, b9⟩ := row_facts (n := 0) (m := 0) hWT); clear hWT))
                  refine bodyPost_ret (v := .tuple #[.agg zS, .int .i64 c, .int .i64 k]) (results_ctt rfl _ _ _ _ _ _ rfl rfl rfl (lv_store q9 rfl)) rfl ?_
                  rw [HZ.out]
                  exact TakeZ.no HE.out ((HG.out.trans (b9.mono HG.out.size)).trans bU)
            · skip
              obtain rfl : k = l.length := by omega
              have HGO := Lib.hid (show goE (s.ver + 1) s.lv s.vs l 0 = ((0, 0), lv, vs) by rw [← TK.out.ve, TK.out.go, go_end (Nat.le_refl _)])
              have hsC := TK.out.size
              have hiC := infoS hsC
              have q1 := TK.out.q1
              have q2 := TK.out.q2
              have H33 := Lib.hid TK.out.c33
              have H34 := Lib.hid TK.out.c34
              have RC := TK.out.rds
              have WT0 := fun W (g : Below wr.heap.size wr W) => refWeight13_any (tC C) lv vs W (RC.tr.below g (Nat.le_refl _)) TK.out.gt.sz TK.out.gt.wf TK.out.gt.h100 TK.out.gt.may
              have AL := Lib.hid (fun W (g : Below wr.heap.size wr W) => all_any (tC C) lv vs W (RC.tr.below g (Nat.le_refl _)) TK.out.gt.h100)
              have hfB : fitsB (nextS s lv vs) = (decide ((wtL (allN lv 16) : Int) ≤ s.by_) && decide (((allN lv 16).length : Int) ≤ s.ke)) := by
                unfold fitsB
                rw [show (nextS s lv vs).lv = lv from rfl, show (nextS s lv vs).vs = vs from rfl, show (nextS s lv vs).by_ = s.by_ from rfl, show (nextS s lv vs).ke = s.ke from rfl, sumT_wt TK.out.gt.may, sumT_len TK.out.gt.may]
              obtain ⟨N1, hN1⟩ : ∃ N, N = wtL (allN lv 16) := ⟨_, rfl⟩
              obtain ⟨N2, hN2⟩ : ∃ N, N = (allN lv 16).length := ⟨_, rfl⟩
              rw [← hN1] at WT0 hfB
              rw [← hN2] at hfB
              have HAL := Lib.hid hN2.symm
              have WT := Lib.hid WT0
              obtain ⟨BY, hBY⟩ : ∃ B, B = s.by_ := ⟨_, rfl⟩
              obtain ⟨KE, hKE⟩ : ∃ B, B = s.ke := ⟨_, rfl⟩
              rw [← hBY] at H33 hfB
              rw [← hKE] at H34 hfB
              have HRC := Lib.hid RC
              have hoC := (Array.all_eq_true_iff_forall_mem.2 fun u hu => RC.one u (by simpa using hu) : C.all (·.oneCell') = true)
              have hS := Below.refl wr.heap.size wr
              have HZS := Lib.hid (fun (h : fitsB (nextS s lv vs) = false) => take_unfit HOK.out HBX.out HGO.out h)
              have HYS := Lib.hid (fun (h : fitsB (nextS s lv vs) = true) => take_fit HOK.out HBX.out HGO.out h)
              have HFB := Lib.hid hfB
              clear WT0 hN1 hN2 hBY hKE RC hfB
              by_cases n1 : BY < (N1 : Int)
              · have t1 : decide (BY < (N1 : Int)) = true := decide_eq_true n1
                have HE := Lib.hid (HZS.out (by rw [HFB.out, decide_eq_false (by omega)]; rfl))
                clear n1
                go_wp2_with fail
                refine g_start (by kernel_rfl) ?_
                refine g_take (i := 0) (d := (some 89)) (v := ?_) rfl rfl (by kernel_rfl) (fun _ _ _ h => h) (by rfl) (fun w' hb' => ?_) ?_
                rotate_left
                · (try go_simp); (try with_reducible rfl)
                try simp only [Act.put, List.setIfInBounds_toArray, List.set_cons_zero, List.set_cons_succ]
                refine g_take (i := 1) (d := (some 90)) (v := ?_) rfl rfl (by kernel_rfl) (fun _ _ _ h => h) (by rfl) (fun w' hb' => ?_) ?_
                rotate_left
                · (refine load_partO_op _ _ (.tmp 89) ?_ ?_ (tC_range ((hb'.block _ (lt_of_block q1)).trans q1)) Tryd.underlying26 ?_ (tC_infoA hsC) <;> rfl); (try go_simp); (try with_reducible rfl)
                try simp only [Act.put, List.setIfInBounds_toArray, List.set_cons_zero, List.set_cons_succ]
                refine g_take (i := 3) (d := (some 92)) (v := ?_) rfl rfl (by kernel_rfl) (fun _ _ _ h => h) (by rfl) (fun w' hb' => ?_) ?_
                rotate_left
                · (try go_simp); (try with_reducible rfl)
                try simp only [Act.put, List.setIfInBounds_toArray, List.set_cons_zero, List.set_cons_succ]
                refine g_take (i := 4) (d := (some 93)) (v := ?_) rfl rfl (by kernel_rfl) (fun _ _ _ h => h) (by rfl) (fun w' hb' => ?_) ?_
                rotate_left
                · have zz := (block_cell ((hb'.block _ (lt_of_block q1)).trans q1) 33).trans H33.out; (try go_simp); (try with_reducible rfl)
                try simp only [Act.put, List.setIfInBounds_toArray, List.set_cons_zero, List.set_cons_succ]
                refine g_run (i := 2) rfl (by kernel_rfl) (by rfl) (fun K hK => ?_)
                go_simp; refine (WT.out _ (Below.drew hS)).mono ?_; rintro e u2 ⟨rfl, gg⟩; have hS := chain (Below.drew hS) gg; have q1 := (gg.block _ (lt_of_block q1)).trans q1; have q2 := (gg.block _ (lt_of_block q2)).trans q2; refine hK _ _ ⟨gg, ?_⟩; clear hK K gg
                try simp only [Act.put, List.setIfInBounds_toArray, List.set_cons_zero, List.set_cons_succ]
                refine g_take (i := 5) (d := (some 94)) (v := ?_) rfl rfl (by kernel_rfl) (fun _ _ _ h => h) (by rfl) (fun w' hb' => ?_) ?_
                rotate_left
                · (try go_simp); (try with_reducible rfl)
                try simp only [Act.put, List.setIfInBounds_toArray, List.set_cons_zero, List.set_cons_succ]
                refine g_take (i := 6) (d := (some 95)) (v := ?_) rfl rfl (by kernel_rfl) (fun _ _ _ h => h) (by rfl) (fun w' hb' => ?_) ?_
                rotate_left
                · (try go_simp); (try with_reducible rfl)
                try simp only [Act.put, List.setIfInBounds_toArray, List.set_cons_zero, List.set_cons_succ]
                refine g_skip (i := 7) (d := (some 96)) rfl rfl (by kernel_rfl) (fun _ _ _ h => h) (by rfl) ?_
                try simp only [Act.put, List.setIfInBounds_toArray, List.set_cons_zero, List.set_cons_succ]
                refine g_skip (i := 8) (d := (some 97)) rfl rfl (by kernel_rfl) (fun _ _ _ h => h) (by rfl) ?_
                try simp only [Act.put, List.setIfInBounds_toArray, List.set_cons_zero, List.set_cons_succ]
                refine g_skip (i := 9) (d := (some 98)) rfl rfl (by kernel_rfl) (fun _ _ _ h => h) (by rfl) ?_
                try simp only [Act.put, List.setIfInBounds_toArray, List.set_cons_zero, List.set_cons_succ]
                refine g_skip (i := 10) (d := (some 99)) rfl rfl (by kernel_rfl) (fun _ _ _ h => h) (by rfl) ?_
                try simp only [Act.put, List.setIfInBounds_toArray, List.set_cons_zero, List.set_cons_succ]
                refine g_skip (i := 11) (d := (some 100)) rfl rfl (by kernel_rfl) (fun _ _ _ h => h) (by rfl) ?_
                try simp only [Act.put, List.setIfInBounds_toArray, List.set_cons_zero, List.set_cons_succ]
                refine g_skip (i := 12) (d := (some 101)) rfl rfl (by kernel_rfl) (fun _ _ _ h => h) (by rfl) ?_
                try simp only [Act.put, List.setIfInBounds_toArray, List.set_cons_zero, List.set_cons_succ]
                refine g_skip (i := 13) (d := (some 102)) rfl rfl (by kernel_rfl) (fun _ _ _ h => h) (by rfl) ?_
                try simp only [Act.put, List.setIfInBounds_toArray, List.set_cons_zero, List.set_cons_succ]
                refine g_take (i := 14) (d := (some 103)) (v := ?_) rfl rfl (by kernel_rfl) (fun _ _ _ h => h) (by rfl) (fun w' hb' => ?_) ?_
                rotate_left
                · (try go_simp); (try with_reducible rfl)
                try simp only [Act.put, List.setIfInBounds_toArray, List.set_cons_zero, List.set_cons_succ]
                refine g_done (by kernel_rfl) ?_
                go_wp2_with (first | ((with_reducible refine wpList_buildV (o := ⟨some 104, _, _, _, _, _⟩) rfl 28 #[] rfl #[] rfl (.agg zS) (HBZ.out _) ?_)) | ((with_reducible refine wpList_store_row (o := ⟨none, _, _, _, _, _⟩) rfl 28 (.tmp 4) (.tmp 104) rfl _ zS rfl rfl _ zS q2 (infoS rfl) rfl zS_one ?_); (obtain ⟨WU, hWU⟩ : ∃ W, W = World.setRow u2 (w.heap.size + 1) zS := ⟨_, rfl⟩); rw [← hWU]; (have q9 : WU.heap[w.heap.size + 1]? = some (.cells zS 28 (0, 0)) := by rw [hWU]; exact setRow_heap _ _ _ _ _ _ q2); (have oU : ∀ k, k ≠ w.heap.size + 1 → WU.heap[k]? = u2.heap[k]? := by rw [hWU]; exact fun k hk => setRow_other _ _ _ _ hk); (have bU : Below w.heap.size u2 WU := by rw [hWU]; exact below_row (Below.refl _ _) (by omega) _); (have sU : WU.heap.size = u2.heap.size := by rw [hWU, setRow_size]); clear hWU))
                refine bodyPost_ret (v := .tuple #[.agg zS, .int .i64 17, .int .i64 l.length]) (results_ctt rfl _ _ _ _ _ _ rfl rfl rfl (lv_store q9 rfl)) rfl ?_
                rw [HZ.out]
                exact TakeZ.no HE.out ((chain BX.out hS).trans bU)
              · have t1 : decide (BY < (N1 : Int)) = false := decide_eq_false n1
                have n1' := Lib.hid (show (N1 : Int) ≤ BY by omega)
                clear n1
                by_cases n2 : KE < (N2 : Int)
                · have t2 : decide (KE < (N2 : Int)) = true := decide_eq_true n2
                  have HE := Lib.hid (HZS.out (by rw [HFB.out, decide_eq_false (by omega : ¬ (N2 : Int) ≤ KE)]; simp))
                  clear n2
                  go_wp2_with fail
                  refine g_start (by kernel_rfl) ?_
                  refine g_take (i := 0) (d := (some 89)) (v := ?_) rfl rfl (by kernel_rfl) (fun _ _ _ h => h) (by rfl) (fun w' hb' => ?_) ?_
                  rotate_left
                  · (try go_simp); (try with_reducible rfl)
                  try simp only [Act.put, List.setIfInBounds_toArray, List.set_cons_zero, List.set_cons_succ]
                  refine g_take (i := 1) (d := (some 90)) (v := ?_) rfl rfl (by kernel_rfl) (fun _ _ _ h => h) (by rfl) (fun w' hb' => ?_) ?_
                  rotate_left
                  · (refine load_partO_op _ _ (.tmp 89) ?_ ?_ (tC_range ((hb'.block _ (lt_of_block q1)).trans q1)) Tryd.underlying26 ?_ (tC_infoA hsC) <;> rfl); (try go_simp); (try with_reducible rfl)
                  try simp only [Act.put, List.setIfInBounds_toArray, List.set_cons_zero, List.set_cons_succ]
                  refine g_take (i := 3) (d := (some 92)) (v := ?_) rfl rfl (by kernel_rfl) (fun _ _ _ h => h) (by rfl) (fun w' hb' => ?_) ?_
                  rotate_left
                  · (try go_simp); (try with_reducible rfl)
                  try simp only [Act.put, List.setIfInBounds_toArray, List.set_cons_zero, List.set_cons_succ]
                  refine g_take (i := 4) (d := (some 93)) (v := ?_) rfl rfl (by kernel_rfl) (fun _ _ _ h => h) (by rfl) (fun w' hb' => ?_) ?_
                  rotate_left
                  · have zz := (block_cell ((hb'.block _ (lt_of_block q1)).trans q1) 33).trans H33.out; (try go_simp); (try with_reducible rfl)
                  try simp only [Act.put, List.setIfInBounds_toArray, List.set_cons_zero, List.set_cons_succ]
                  refine g_run (i := 2) rfl (by kernel_rfl) (by rfl) (fun K hK => ?_)
                  go_simp; refine (WT.out _ (Below.drew hS)).mono ?_; rintro e u2 ⟨rfl, gg⟩; have hS := chain (Below.drew hS) gg; have q1 := (gg.block _ (lt_of_block q1)).trans q1; have q2 := (gg.block _ (lt_of_block q2)).trans q2; refine hK _ _ ⟨gg, ?_⟩; clear hK K gg
                  try simp only [Act.put, List.setIfInBounds_toArray, List.set_cons_zero, List.set_cons_succ]
                  refine g_take (i := 5) (d := (some 94)) (v := ?_) rfl rfl (by kernel_rfl) (fun _ _ _ h => h) (by rfl) (fun w' hb' => ?_) ?_
                  rotate_left
                  · (try go_simp); (try with_reducible rfl)
                  try simp only [Act.put, List.setIfInBounds_toArray, List.set_cons_zero, List.set_cons_succ]
                  refine g_take (i := 6) (d := (some 95)) (v := ?_) rfl rfl (by kernel_rfl) (fun _ _ _ h => h) (by rfl) (fun w' hb' => ?_) ?_
                  rotate_left
                  · (try go_simp); (try with_reducible rfl)
                  try simp only [Act.put, List.setIfInBounds_toArray, List.set_cons_zero, List.set_cons_succ]
                  refine g_take (i := 7) (d := (some 96)) (v := ?_) rfl rfl (by kernel_rfl) (fun _ _ _ h => h) (by rfl) (fun w' hb' => ?_) ?_
                  rotate_left
                  · (try go_simp); (try with_reducible rfl)
                  try simp only [Act.put, List.setIfInBounds_toArray, List.set_cons_zero, List.set_cons_succ]
                  refine g_take (i := 8) (d := (some 97)) (v := ?_) rfl rfl (by kernel_rfl) (fun _ _ _ h => h) (by rfl) (fun w' hb' => ?_) ?_
                  rotate_left
                  · (refine load_partO_op _ _ (.tmp 96) ?_ ?_ (tC_range ((hb'.block _ (lt_of_block q1)).trans q1)) Tryd.underlying26 ?_ (tC_infoA hsC) <;> rfl); (try go_simp); (try with_reducible rfl)
                  try simp only [Act.put, List.setIfInBounds_toArray, List.set_cons_zero, List.set_cons_succ]
                  refine g_take (i := 11) (d := (some 100)) (v := ?_) rfl rfl (by kernel_rfl) (fun _ _ _ h => h) (by rfl) (fun w' hb' => ?_) ?_
                  rotate_left
                  · (try go_simp); (try with_reducible rfl)
                  try simp only [Act.put, List.setIfInBounds_toArray, List.set_cons_zero, List.set_cons_succ]
                  refine g_take (i := 12) (d := (some 101)) (v := ?_) rfl rfl (by kernel_rfl) (fun _ _ _ h => h) (by rfl) (fun w' hb' => ?_) ?_
                  rotate_left
                  · have zz := (block_cell ((hb'.block _ (lt_of_block q1)).trans q1) 34).trans H34.out; (try go_simp); (try with_reducible rfl)
                  try simp only [Act.put, List.setIfInBounds_toArray, List.set_cons_zero, List.set_cons_succ]
                  refine g_run (i := 9) rfl (by kernel_rfl) (by rfl) (fun K hK => ?_)
                  go_simp; refine (AL.out _ hS).mono ?_; rintro e u9 ⟨va, rfl, own, gg⟩; obtain ⟨aA, nA, cA, rfl⟩ := own_slice own; have hnA := own_count own; have hS := chain hS gg; have q1 := (gg.block _ (lt_of_block q1)).trans q1; have q2 := (gg.block _ (lt_of_block q2)).trans q2; rw [HAL.out] at hnA; subst hnA; refine hK _ _ ⟨gg, ?_⟩; clear hK K gg own
                  try simp only [Act.put, List.setIfInBounds_toArray, List.set_cons_zero, List.set_cons_succ]
                  refine g_take (i := 10) (d := (some 99)) (v := ?_) rfl rfl (by kernel_rfl) (fun _ _ _ h => h) (by rfl) (fun w' hb' => ?_) ?_
                  rotate_left
                  · (try go_simp); (try with_reducible rfl)
                  try simp only [Act.put, List.setIfInBounds_toArray, List.set_cons_zero, List.set_cons_succ]
                  refine g_take (i := 13) (d := (some 102)) (v := ?_) rfl rfl (by kernel_rfl) (fun _ _ _ h => h) (by rfl) (fun w' hb' => ?_) ?_
                  rotate_left
                  · (try go_simp); (try with_reducible rfl)
                  try simp only [Act.put, List.setIfInBounds_toArray, List.set_cons_zero, List.set_cons_succ]
                  refine g_take (i := 14) (d := (some 103)) (v := ?_) rfl rfl (by kernel_rfl) (fun _ _ _ h => h) (by rfl) (fun w' hb' => ?_) ?_
                  rotate_left
                  · (try go_simp); (try with_reducible rfl)
                  try simp only [Act.put, List.setIfInBounds_toArray, List.set_cons_zero, List.set_cons_succ]
                  refine g_done (by kernel_rfl) ?_
                  go_wp2_with (first | ((with_reducible refine wpList_buildV (o := ⟨some 104, _, _, _, _, _⟩) rfl 28 #[] rfl #[] rfl (.agg zS) (HBZ.out _) ?_)) | ((with_reducible refine wpList_store_row (o := ⟨none, _, _, _, _, _⟩) rfl 28 (.tmp 4) (.tmp 104) rfl _ zS rfl rfl _ zS q2 (infoS rfl) rfl zS_one ?_); (obtain ⟨WU, hWU⟩ : ∃ W, W = World.setRow u9 (w.heap.size + 1) zS := ⟨_, rfl⟩); rw [← hWU]; (have q9 : WU.heap[w.heap.size + 1]? = some (.cells zS 28 (0, 0)) := by rw [hWU]; exact setRow_heap _ _ _ _ _ _ q2); (have oU : ∀ k, k ≠ w.heap.size + 1 → WU.heap[k]? = u9.heap[k]? := by rw [hWU]; exact fun k hk => setRow_other _ _ _ _ hk); (have bU : Below w.heap.size u9 WU := by rw [hWU]; exact below_row (Below.refl _ _) (by omega) _); (have sU : WU.heap.size = u9.heap.size := by rw [hWU, setRow_size]); clear hWU))
                  refine bodyPost_ret (v := .tuple #[.agg zS, .int .i64 17, .int .i64 l.length]) (results_ctt rfl _ _ _ _ _ _ rfl rfl rfl (lv_store q9 rfl)) rfl ?_
                  rw [HZ.out]
                  exact TakeZ.no HE.out ((chain BX.out hS).trans bU)
                · have t2 : decide (KE < (N2 : Int)) = false := decide_eq_false n2
                  have HE := Lib.hid (HYS.out (by rw [HFB.out, decide_eq_true n1'.out, decide_eq_true (by omega : (N2 : Int) ≤ KE)]; rfl))
                  have SF0 := Lib.hid (fun P hP hQ => TK.out.safe P hP hQ)
                  clear n2
                  go_wp2_with fail
                  refine g_start (by kernel_rfl) ?_
                  refine g_take (i := 0) (d := (some 89)) (v := ?_) rfl rfl (by kernel_rfl) (fun _ _ _ h => h) (by rfl) (fun w' hb' => ?_) ?_
                  rotate_left
                  · (try go_simp); (try with_reducible rfl)
                  try simp only [Act.put, List.setIfInBounds_toArray, List.set_cons_zero, List.set_cons_succ]
                  refine g_take (i := 1) (d := (some 90)) (v := ?_) rfl rfl (by kernel_rfl) (fun _ _ _ h => h) (by rfl) (fun w' hb' => ?_) ?_
                  rotate_left
                  · (refine load_partO_op _ _ (.tmp 89) ?_ ?_ (tC_range ((hb'.block _ (lt_of_block q1)).trans q1)) Tryd.underlying26 ?_ (tC_infoA hsC) <;> rfl); (try go_simp); (try with_reducible rfl)
                  try simp only [Act.put, List.setIfInBounds_toArray, List.set_cons_zero, List.set_cons_succ]
                  refine g_take (i := 3) (d := (some 92)) (v := ?_) rfl rfl (by kernel_rfl) (fun _ _ _ h => h) (by rfl) (fun w' hb' => ?_) ?_
                  rotate_left
                  · (try go_simp); (try with_reducible rfl)
                  try simp only [Act.put, List.setIfInBounds_toArray, List.set_cons_zero, List.set_cons_succ]
                  refine g_take (i := 4) (d := (some 93)) (v := ?_) rfl rfl (by kernel_rfl) (fun _ _ _ h => h) (by rfl) (fun w' hb' => ?_) ?_
                  rotate_left
                  · have zz := (block_cell ((hb'.block _ (lt_of_block q1)).trans q1) 33).trans H33.out; (try go_simp); (try with_reducible rfl)
                  try simp only [Act.put, List.setIfInBounds_toArray, List.set_cons_zero, List.set_cons_succ]
                  refine g_run (i := 2) rfl (by kernel_rfl) (by rfl) (fun K hK => ?_)
                  go_simp; refine (WT.out _ (Below.drew hS)).mono ?_; rintro e u2 ⟨rfl, gg⟩; have hS := chain (Below.drew hS) gg; have q1 := (gg.block _ (lt_of_block q1)).trans q1; have q2 := (gg.block _ (lt_of_block q2)).trans q2; refine hK _ _ ⟨gg, ?_⟩; clear hK K gg
                  try simp only [Act.put, List.setIfInBounds_toArray, List.set_cons_zero, List.set_cons_succ]
                  refine g_take (i := 5) (d := (some 94)) (v := ?_) rfl rfl (by kernel_rfl) (fun _ _ _ h => h) (by rfl) (fun w' hb' => ?_) ?_
                  rotate_left
                  · (try go_simp); (try with_reducible rfl)
                  try simp only [Act.put, List.setIfInBounds_toArray, List.set_cons_zero, List.set_cons_succ]
                  refine g_take (i := 6) (d := (some 95)) (v := ?_) rfl rfl (by kernel_rfl) (fun _ _ _ h => h) (by rfl) (fun w' hb' => ?_) ?_
                  rotate_left
                  · (try go_simp); (try with_reducible rfl)
                  try simp only [Act.put, List.setIfInBounds_toArray, List.set_cons_zero, List.set_cons_succ]
                  refine g_take (i := 7) (d := (some 96)) (v := ?_) rfl rfl (by kernel_rfl) (fun _ _ _ h => h) (by rfl) (fun w' hb' => ?_) ?_
                  rotate_left
                  · (try go_simp); (try with_reducible rfl)
                  try simp only [Act.put, List.setIfInBounds_toArray, List.set_cons_zero, List.set_cons_succ]
                  refine g_take (i := 8) (d := (some 97)) (v := ?_) rfl rfl (by kernel_rfl) (fun _ _ _ h => h) (by rfl) (fun w' hb' => ?_) ?_
                  rotate_left
                  · (refine load_partO_op _ _ (.tmp 96) ?_ ?_ (tC_range ((hb'.block _ (lt_of_block q1)).trans q1)) Tryd.underlying26 ?_ (tC_infoA hsC) <;> rfl); (try go_simp); (try with_reducible rfl)
                  try simp only [Act.put, List.setIfInBounds_toArray, List.set_cons_zero, List.set_cons_succ]
                  refine g_take (i := 11) (d := (some 100)) (v := ?_) rfl rfl (by kernel_rfl) (fun _ _ _ h => h) (by rfl) (fun w' hb' => ?_) ?_
                  rotate_left
                  · (try go_simp); (try with_reducible rfl)
                  try simp only [Act.put, List.setIfInBounds_toArray, List.set_cons_zero, List.set_cons_succ]
                  refine g_take (i := 12) (d := (some 101)) (v := ?_) rfl rfl (by kernel_rfl) (fun _ _ _ h => h) (by rfl) (fun w' hb' => ?_) ?_
                  rotate_left
                  · have zz := (block_cell ((hb'.block _ (lt_of_block q1)).trans q1) 34).trans H34.out; (try go_simp); (try with_reducible rfl)
                  try simp only [Act.put, List.setIfInBounds_toArray, List.set_cons_zero, List.set_cons_succ]
                  refine g_run (i := 9) rfl (by kernel_rfl) (by rfl) (fun K hK => ?_)
                  go_simp; refine (AL.out _ hS).mono ?_; rintro e u9 ⟨va, rfl, own, gg⟩; obtain ⟨aA, nA, cA, rfl⟩ := own_slice own; have hnA := own_count own; have hS := chain hS gg; have q1 := (gg.block _ (lt_of_block q1)).trans q1; have q2 := (gg.block _ (lt_of_block q2)).trans q2; rw [HAL.out] at hnA; subst hnA; refine hK _ _ ⟨gg, ?_⟩; clear hK K gg own
                  try simp only [Act.put, List.setIfInBounds_toArray, List.set_cons_zero, List.set_cons_succ]
                  refine g_take (i := 10) (d := (some 99)) (v := ?_) rfl rfl (by kernel_rfl) (fun _ _ _ h => h) (by rfl) (fun w' hb' => ?_) ?_
                  rotate_left
                  · (try go_simp); (try with_reducible rfl)
                  try simp only [Act.put, List.setIfInBounds_toArray, List.set_cons_zero, List.set_cons_succ]
                  refine g_take (i := 13) (d := (some 102)) (v := ?_) rfl rfl (by kernel_rfl) (fun _ _ _ h => h) (by rfl) (fun w' hb' => ?_) ?_
                  rotate_left
                  · (try go_simp); (try with_reducible rfl)
                  try simp only [Act.put, List.setIfInBounds_toArray, List.set_cons_zero, List.set_cons_succ]
                  refine g_take (i := 14) (d := (some 103)) (v := ?_) rfl rfl (by kernel_rfl) (fun _ _ _ h => h) (by rfl) (fun w' hb' => ?_) ?_
                  rotate_left
                  · (try go_simp); (try with_reducible rfl)
                  try simp only [Act.put, List.setIfInBounds_toArray, List.set_cons_zero, List.set_cons_succ]
                  refine g_done (by kernel_rfl) ?_
                  go_wp2_with (first | ((with_reducible refine wpList_load_row (o := ⟨some 107, _, _, _, _, _⟩) rfl 28 (.tmp 2) rfl _ rfl _ C (0, 0) _ q1 Tryd.underlying28 rfl hiC ?_)) | ((with_reducible refine wpList_store_row (o := ⟨none, _, _, _, _, _⟩) rfl 28 (.tmp 4) (.tmp 107) rfl _ C rfl rfl _ zS q2 hiC (zS_size.trans hsC.symm) hoC ?_); (obtain ⟨WU, hWU⟩ : ∃ W, W = World.setRow u9 (w.heap.size + 1) C := ⟨_, rfl⟩); rw [← hWU]; (have q9 : WU.heap[w.heap.size + 1]? = some (.cells C 28 (0, 0)) := by rw [hWU]; exact setRow_heap _ _ _ _ _ _ q2); (have oU : ∀ k, k ≠ w.heap.size + 1 → WU.heap[k]? = u9.heap[k]? := by rw [hWU]; exact fun k hk => setRow_other _ _ _ _ hk); (have bU : Below w.heap.size u9 WU := by rw [hWU]; exact below_row (Below.refl _ _) (by omega) _); (have sU : WU.heap.size = u9.heap.size := by rw [hWU, setRow_size]); clear hWU))
                  refine bodyPost_ret (v := .tuple #[.agg C, .int .i64 0, .int .i64 0]) (results_ctt rfl _ _ _ _ _ _ rfl rfl rfl (lv_store q9 hsC)) rfl ?_
                  rw [HZ.out]
                  have SX := Lib.hid (fun (P : Nat → Prop) (hP : ∀ k, P k → k < w.heap.size) (hQ : SafeP P w (tC cs) s.lv s.vs) => (show SafeP (fun k => P k ∨ Own2 w.heap.size k) WU (tC C) lv vs from ((SF0.out P hP hQ).below hS).later (by rw [sU]; exact Nat.le_refl _) fun k hk hp => oU k (fun e => hp (.inr (by subst e; exact ⟨by omega, by omega⟩)))))
                  exact TakeZ.yes HE.out (fun P hP hQ => ⟨hsC, fun W hW => (SX.out P hP hQ) W fun k hk hn => hW k hk fun h => hn (.inl h), HRC.out.ver, HRC.out.by_, HRC.out.ke⟩) ((chain BX.out hS).trans bU)
end Go.Proofs.YtbdfcgffkonbiaaDoor
