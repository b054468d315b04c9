/- The law TermApart. Written by wip/tools/gen2e.py. -/
import Derived.Test.YtblhgliegoickaaDoorT2C
namespace Go.Proofs.YtblhgliegoickaaDoor
open Go Go.RowKit Go.Maps
set_option linter.unusedVariables false
set_option linter.unusedSimpArgs false
theorem str_app (a b : Txt) : str (a ++ b) = str a ++ str b := by
  apply ByteArray.ext
  simp [str, ByteArray.data_append]
theorem str_tl (l : Txt) : (str l).toList = l := by unfold str; simp
theorem rdt_open {w : World} {v : Value} {A : List Txt} (h : RdV w v (A.map sv)) : ∃ ao cap, v = .slice ao A.length cap ∧ A.length ≤ cap ∧ Hid (0 < A.length → ∃ b off, ao = some ⟨b, off, none⟩ ∧ b < w.heap.size ∧ ∀ i (hi : i < A.length), w.cell? ⟨b, off + i, none⟩ = some (sv A[i])) := by
  obtain ⟨ao, cap, rfl, hc, hm, _, HA⟩ := h
  rw [List.length_map] at hc HA
  refine ⟨ao, cap, by rw [List.length_map], hc, Lib.hid fun hp => ?_⟩
  obtain ⟨b, off, h1, h2, h3⟩ := HA hp
  refine ⟨b, off, h1, h2, fun i hi => ?_⟩
  rw [h3 i hi, List.getElem?_map, List.getElem?_eq_getElem hi]; rfl
set_option maxRecDepth 100000 in
set_option maxHeartbeats 2000000 in
theorem law_apart (v1 : Value) (A : List Txt) (a b : Txt) (w : World) (h1 : RdV w v1 (A.map sv)) (f1 : ∀ x ∈ A, x.length ≤ 1000000000000000) (f2 : a.length ≤ 1000000000000000) (f3 : b.length ≤ 1000000000000000) (ht : Tab w) :
    Calls Tryd.prog 4 #[v1, .string (str a), .string (str b)] w fun e w' => e = .returned (.bool true) ∧ Below w.heap.size w w' := by
  obtain ⟨ao, cap, rfl, hc, HA⟩ := rdt_open h1
  have HT := Lib.hid ht
  have HW := Lib.hid f1
  clear h1 f1 ht
  go_enter Tryd.func4, Tryd.ntmps4
  go_wp2_with fail
  refine (new_any w).mono ?_
  rintro e w0 ⟨rfl, B0, tb0⟩
  go_wp2_with fail
  go_loopw [8] (fun i wr => ∃ (j : Nat) (v : Value) (L : List Txt), j ≤ 60 ∧ j ≤ A.length ∧ i = .int .i64 (j : Int) ∧ Below w.heap.size w wr ∧ TB wr w.heap.size (w.heap.size + 1) w.heap.size v L ∧ L.length ≤ j) (fun i _ => 100 - (intOf i).toNat)
  case atStart => exact ⟨0, _, _, by omega, Nat.zero_le _, rfl, B0, tb0, by simp⟩
  case round =>
    obtain ⟨j, v, L, hj, hj0, rfl, bel, tb, hl⟩ := hrel
    by_cases hj1 : j < A.length
    · by_cases hj2 : j < 60
      · skip
        obtain ⟨b0, o0, rfl, hb0, hcells⟩ := HA.out (by omega)
        have hc0 := (bel.cell (p := ⟨b0, o0 + j, none⟩) hb0).trans (hcells j hj1)
        have hwx := HW.out A[j] (List.getElem_mem hj1)
        obtain ⟨x, ex⟩ : ∃ x, x = A[j] := ⟨_, rfl⟩
        rw [← ex] at hc0 hwx
        clear ex hcells
        unfold sv at hc0
        have OF := of_any _ _ _ v L x (by unfold maxLen; omega) (by omega) wr tb bel.size
        have OG := tb.own_ge
        have hl2 := ofL_len L x
        unfold sv at OF
        clear tb
        go_wp2_with fail
        refine OF.mono ?_
        rintro e w1 ⟨rfl, v1, tb1, tr, _⟩
        have B1 := below_trn bel tr OG
        clear OF tr OG
        go_wp2_with fail
        go_roundw
        case rel => exact ⟨j + 1, _, _, by omega, by omega, by go_num, B1, tb1, by omega⟩
        case measure => simp [intOf]; omega
      · skip
        have OF := of_any _ _ _ v L a (by unfold maxLen; omega) (by omega) wr tb bel.size
        have OG := tb.own_ge
        have hl2 := ofL_len L a
        have ma := ofL_mem L a
        obtain ⟨L1, hL1⟩ : ∃ L1, L1 = ofL L a := ⟨_, rfl⟩
        rw [← hL1] at OF hl2 ma
        obtain ⟨X, hX⟩ : ∃ X, X = numN L1 a := ⟨_, rfl⟩
        rw [← hX] at OF
        unfold sv at OF
        clear tb hL1
        go_wp2_with fail
        refine OF.mono ?_
        rintro e w1 ⟨rfl, v1, tb1, tr, _⟩
        have B1 := below_trn bel tr OG
        clear OF tr OG
        have OF := of_any _ _ _ v1 L1 b (by unfold maxLen; omega) (by omega) w1 tb1 B1.size
        have OG := tb1.own_ge
        have hl3 := ofL_len L1 b
        have mb := ofL_mem L1 b
        have ma2 : a ∈ ofL L1 b := ofL_sub ma
        have nx : numN (ofL L1 b) a = X := (num_ofL ma).trans hX.symm
        obtain ⟨L2, hL2⟩ : ∃ L2, L2 = ofL L1 b := ⟨_, rfl⟩
        have nd2 : L2.Nodup := by rw [hL2]; exact ofL_nodup tb1.nd
        rw [← hL2] at OF hl3 mb ma2 nx
        obtain ⟨Y, hY⟩ : ∃ Y, Y = numN L2 b := ⟨_, rfl⟩
        rw [← hY] at OF
        have hxy : X = Y ↔ a = b := by
          constructor
          · intro h; exact num_inj nd2 ma2 mb (by omega)
          · intro h; rw [← nx, hY, h]
        have HXY := Lib.hid hxy
        have HAB := Lib.hid (show a ∈ L2 ∧ b ∈ L2 ∧ numN L2 a = X ∧ numN L2 b = Y from ⟨ma2, mb, nx, hY.symm⟩)
        unfold sv at OF
        clear tb1 hL2 hX hY nx ma mb ma2 nd2 hxy
        go_wp2_with fail
        refine OF.mono ?_
        rintro e w2 ⟨rfl, v2, tb2, tr, _⟩
        have B2 := below_trn B1 tr OG
        clear OF tr OG
        have hl4 : L2.length ≤ 62 := by omega
        clear hl hl2 hl3 bel B1 hj hj0 hj1
        go_wp2_with fail
        go_loopw [13] (fun i wr => ∃ (j : Nat) (v : Value) (L : List Txt), j ≤ 60 ∧ j ≤ A.length ∧ i = .int .i64 (j : Int) ∧ Below w.heap.size w wr ∧ TB wr w.heap.size (w.heap.size + 1) w.heap.size v L ∧ L.length ≤ 62 + j ∧ Hid (a ∈ L ∧ b ∈ L ∧ numN L a = X ∧ numN L b = Y)) (fun i _ => 100 - (intOf i).toNat)
        case atStart => exact ⟨0, _, _, by omega, Nat.zero_le _, rfl, B2, tb2, by omega, HAB⟩
        case round =>
          obtain ⟨j, v, L, hj, hj0, rfl, bel, tb, hl, HS⟩ := hrel
          by_cases hj1 : j < A.length
          · by_cases hj2 : j < 60
            · skip
              obtain ⟨b0, o0, rfl, hb0, hcells⟩ := HA.out (by omega)
              have hc0 := (bel.cell (p := ⟨b0, o0 + j, none⟩) hb0).trans (hcells j hj1)
              have hwx := HW.out A[j] (List.getElem_mem hj1)
              obtain ⟨x, ex⟩ : ∃ x, x = A[j] := ⟨_, rfl⟩
              rw [← ex] at hc0 hwx
              clear ex hcells
              unfold sv at hc0
              have OF := of_any _ _ _ v L (x ++ a) (by rw [List.length_append]; unfold maxLen; omega) (by omega) wr tb bel.size
              have OG := tb.own_ge
              have hl2 := ofL_len L (x ++ a)
              have hs2 : a ∈ ofL L (x ++ a) ∧ b ∈ ofL L (x ++ a) ∧ numN (ofL L (x ++ a)) a = X ∧ numN (ofL L (x ++ a)) b = Y := by
                obtain ⟨s1, s2, s3, s4⟩ := HS.out
                exact ⟨ofL_sub s1, ofL_sub s2, (num_ofL s1).trans s3, (num_ofL s2).trans s4⟩
              have HS2 := Lib.hid hs2
              unfold sv at OF
              rw [str_app] at OF
              have hcat : ∀ w : World, (Op.stringOp .add (str x) (str a)).run Tryd.prog w = .ok (.string (str x ++ str a)) w := fun w => run_string_add_sum w _ _ (by rw [str_size, str_size]; omega)
              have hcat2 : ∀ (w : World), (binOp .add 9 (.string (str x)) (.string (str a))).run Tryd.prog w = .ok (.string (str x ++ str a)) w := fun w => by rw [binOp_string_add]; exact hcat w
              clear hs2 tb
              go_wp2_with fail
              refine OF.mono ?_
              rintro e w3 ⟨rfl, v3, tb3, tr, _⟩
              have B3 := below_trn bel tr OG
              clear OF tr OG
              go_wp2_with fail
              go_roundw
              case rel => exact ⟨j + 1, _, _, by omega, by omega, by go_num, B3, tb3, by omega, HS2⟩
              case measure => simp [intOf]; omega
            · skip
              obtain ⟨s1, s2, s3, s4⟩ := HS.out
              have OF := of_any _ _ _ v L a (by unfold maxLen; omega) (by omega) wr tb bel.size
              have OG := tb.own_ge
              rw [num_ofL s1, s3] at OF
              have hb2 : b ∈ ofL L a := ofL_sub s2
              have hY : numN (ofL L a) b = Y := (num_ofL s2).trans s4
              have hll := ofL_len L a
              obtain ⟨L3, hL3⟩ : ∃ L3, L3 = ofL L a := ⟨_, rfl⟩
              rw [← hL3] at OF hb2 hY hll
              unfold sv at OF
              clear s1 s2 s3 s4 hL3 tb
              go_wp2_with fail
              refine OF.mono ?_
              rintro e w3 ⟨rfl, v3, tb3, tr, _⟩
              have B3 := below_trn bel tr OG
              clear OF tr OG
              have hk : L3.idxOf b < L3.length := List.idxOf_lt_length_iff.2 hb2
              have TX := text_in _ _ _ v3 L3 (L3.idxOf b) hk w3 tb3
              rw [List.getElem_idxOf hk] at TX
              have hY2 : ((L3.idxOf b : Int) + 1) = (Y : Int) := by unfold numN at hY; rw [if_pos hb2] at hY; omega
              rw [hY2] at TX
              unfold sv at TX
              clear hY hY2 hk tb3 hb2
              go_wp2_with fail
              refine TX.mono ?_
              rintro e w4 ⟨rfl, rfl⟩
              have hz : ((X : Int) == (X : Int)) = true := by simp
              have hbb : ((str b).toList == (str b).toList) = true := by simp
              by_cases hab : a = b
              · have e1 : ((str a).toList == (str b).toList) = true := by rw [hab]; simp
                have e2 : ((X : Int) == (Y : Int)) = true := by have h := HXY.out.2 hab; rw [h]; simp
                have HABB := Lib.hid hab
                clear hab
                go_wp2_with (go_at_call 17; refine (awake_any _ (HT.out.below B3)).mono ?_; rintro e w9 ⟨rfl, g9⟩)
                go_ret
                exact ⟨rfl, chain B3 g9⟩
              · have e1 : ((str a).toList == (str b).toList) = false := by rw [str_tl, str_tl]; simpa using hab
                have e2 : ((X : Int) == (Y : Int)) = false := beq_false_of_ne (fun h => hab (HXY.out.1 (by omega)))
                have HABB := Lib.hid hab
                clear hab
                go_wp2_with (go_at_call 17; refine (awake_any _ (HT.out.below B3)).mono ?_; rintro e w9 ⟨rfl, g9⟩)
                go_ret
                exact ⟨rfl, chain B3 g9⟩
          · skip
            obtain ⟨s1, s2, s3, s4⟩ := HS.out
            have OF := of_any _ _ _ v L a (by unfold maxLen; omega) (by omega) wr tb bel.size
            have OG := tb.own_ge
            rw [num_ofL s1, s3] at OF
            have hb2 : b ∈ ofL L a := ofL_sub s2
            have hY : numN (ofL L a) b = Y := (num_ofL s2).trans s4
            have hll := ofL_len L a
            obtain ⟨L3, hL3⟩ : ∃ L3, L3 = ofL L a := ⟨_, rfl⟩
            rw [← hL3] at OF hb2 hY hll
            unfold sv at OF
            clear s1 s2 s3 s4 hL3 tb
            go_wp2_with fail
            refine OF.mono ?_
            rintro e w3 ⟨rfl, v3, tb3, tr, _⟩
            have B3 := below_trn bel tr OG
            clear OF tr OG
            have hk : L3.idxOf b < L3.length := List.idxOf_lt_length_iff.2 hb2
            have TX := text_in _ _ _ v3 L3 (L3.idxOf b) hk w3 tb3
            rw [List.getElem_idxOf hk] at TX
            have hY2 : ((L3.idxOf b : Int) + 1) = (Y : Int) := by unfold numN at hY; rw [if_pos hb2] at hY; omega
            rw [hY2] at TX
            unfold sv at TX
            clear hY hY2 hk tb3 hb2
            go_wp2_with fail
            refine TX.mono ?_
            rintro e w4 ⟨rfl, rfl⟩
            have hz : ((X : Int) == (X : Int)) = true := by simp
            have hbb : ((str b).toList == (str b).toList) = true := by simp
            by_cases hab : a = b
            · have e1 : ((str a).toList == (str b).toList) = true := by rw [hab]; simp
              have e2 : ((X : Int) == (Y : Int)) = true := by have h := HXY.out.2 hab; rw [h]; simp
              have HABB := Lib.hid hab
              clear hab
              go_wp2_with (go_at_call 17; refine (awake_any _ (HT.out.below B3)).mono ?_; rintro e w9 ⟨rfl, g9⟩)
              go_ret
              exact ⟨rfl, chain B3 g9⟩
            · have e1 : ((str a).toList == (str b).toList) = false := by rw [str_tl, str_tl]; simpa using hab
              have e2 : ((X : Int) == (Y : Int)) = false := beq_false_of_ne (fun h => hab (HXY.out.1 (by omega)))
              have HABB := Lib.hid hab
              clear hab
              go_wp2_with (go_at_call 17; refine (awake_any _ (HT.out.below B3)).mono ?_; rintro e w9 ⟨rfl, g9⟩)
              go_ret
              exact ⟨rfl, chain B3 g9⟩
    · skip
      have OF := of_any _ _ _ v L a (by unfold maxLen; omega) (by omega) wr tb bel.size
      have OG := tb.own_ge
      have hl2 := ofL_len L a
      have ma := ofL_mem L a
      obtain ⟨L1, hL1⟩ : ∃ L1, L1 = ofL L a := ⟨_, rfl⟩
      rw [← hL1] at OF hl2 ma
      obtain ⟨X, hX⟩ : ∃ X, X = numN L1 a := ⟨_, rfl⟩
      rw [← hX] at OF
      unfold sv at OF
      clear tb hL1
      go_wp2_with fail
      refine OF.mono ?_
      rintro e w1 ⟨rfl, v1, tb1, tr, _⟩
      have B1 := below_trn bel tr OG
      clear OF tr OG
      have OF := of_any _ _ _ v1 L1 b (by unfold maxLen; omega) (by omega) w1 tb1 B1.size
      have OG := tb1.own_ge
      have hl3 := ofL_len L1 b
      have mb := ofL_mem L1 b
      have ma2 : a ∈ ofL L1 b := ofL_sub ma
      have nx : numN (ofL L1 b) a = X := (num_ofL ma).trans hX.symm
      obtain ⟨L2, hL2⟩ : ∃ L2, L2 = ofL L1 b := ⟨_, rfl⟩
      have nd2 : L2.Nodup := by rw [hL2]; exact ofL_nodup tb1.nd
      rw [← hL2] at OF hl3 mb ma2 nx
      obtain ⟨Y, hY⟩ : ∃ Y, Y = numN L2 b := ⟨_, rfl⟩
      rw [← hY] at OF
      have hxy : X = Y ↔ a = b := by
        constructor
        · intro h; exact num_inj nd2 ma2 mb (by omega)
        · intro h; rw [← nx, hY, h]
      have HXY := Lib.hid hxy
      have HAB := Lib.hid (show a ∈ L2 ∧ b ∈ L2 ∧ numN L2 a = X ∧ numN L2 b = Y from ⟨ma2, mb, nx, hY.symm⟩)
      unfold sv at OF
      clear tb1 hL2 hX hY nx ma mb ma2 nd2 hxy
      go_wp2_with fail
      refine OF.mono ?_
      rintro e w2 ⟨rfl, v2, tb2, tr, _⟩
      have B2 := below_trn B1 tr OG
      clear OF tr OG
      have hl4 : L2.length ≤ 62 := by omega
      clear hl hl2 hl3 bel B1 hj hj0 hj1
      go_wp2_with fail
      go_loopw [13] (fun i wr => ∃ (j : Nat) (v : Value) (L : List Txt), j ≤ 60 ∧ j ≤ A.length ∧ i = .int .i64 (j : Int) ∧ Below w.heap.size w wr ∧ TB wr w.heap.size (w.heap.size + 1) w.heap.size v L ∧ L.length ≤ 62 + j ∧ Hid (a ∈ L ∧ b ∈ L ∧ numN L a = X ∧ numN L b = Y)) (fun i _ => 100 - (intOf i).toNat)
      case atStart => exact ⟨0, _, _, by omega, Nat.zero_le _, rfl, B2, tb2, by omega, HAB⟩
      case round =>
        obtain ⟨j, v, L, hj, hj0, rfl, bel, tb, hl, HS⟩ := hrel
        by_cases hj1 : j < A.length
        · by_cases hj2 : j < 60
          · skip
            obtain ⟨b0, o0, rfl, hb0, hcells⟩ := HA.out (by omega)
            have hc0 := (bel.cell (p := ⟨b0, o0 + j, none⟩) hb0).trans (hcells j hj1)
            have hwx := HW.out A[j] (List.getElem_mem hj1)
            obtain ⟨x, ex⟩ : ∃ x, x = A[j] := ⟨_, rfl⟩
            rw [← ex] at hc0 hwx
            clear ex hcells
            unfold sv at hc0
            have OF := of_any _ _ _ v L (x ++ a) (by rw [List.length_append]; unfold maxLen; omega) (by omega) wr tb bel.size
            have OG := tb.own_ge
            have hl2 := ofL_len L (x ++ a)
            have hs2 : a ∈ ofL L (x ++ a) ∧ b ∈ ofL L (x ++ a) ∧ numN (ofL L (x ++ a)) a = X ∧ numN (ofL L (x ++ a)) b = Y := by
              obtain ⟨s1, s2, s3, s4⟩ := HS.out
              exact ⟨ofL_sub s1, ofL_sub s2, (num_ofL s1).trans s3, (num_ofL s2).trans s4⟩
            have HS2 := Lib.hid hs2
            unfold sv at OF
            rw [str_app] at OF
            have hcat : ∀ w : World, (Op.stringOp .add (str x) (str a)).run Tryd.prog w = .ok (.string (str x ++ str a)) w := fun w => run_string_add_sum w _ _ (by rw [str_size, str_size]; omega)
            have hcat2 : ∀ (w : World), (binOp .add 9 (.string (str x)) (.string (str a))).run Tryd.prog w = .ok (.string (str x ++ str a)) w := fun w => by rw [binOp_string_add]; exact hcat w
            clear hs2 tb
            go_wp2_with fail
            refine OF.mono ?_
            rintro e w3 ⟨rfl, v3, tb3, tr, _⟩
            have B3 := below_trn bel tr OG
            clear OF tr OG
            go_wp2_with fail
            go_roundw
            case rel => exact ⟨j + 1, _, _, by omega, by omega, by go_num, B3, tb3, by omega, HS2⟩
            case measure => simp [intOf]; omega
          · skip
            obtain ⟨s1, s2, s3, s4⟩ := HS.out
            have OF := of_any _ _ _ v L a (by unfold maxLen; omega) (by omega) wr tb bel.size
            have OG := tb.own_ge
            rw [num_ofL s1, s3] at OF
            have hb2 : b ∈ ofL L a := ofL_sub s2
            have hY : numN (ofL L a) b = Y := (num_ofL s2).trans s4
            have hll := ofL_len L a
            obtain ⟨L3, hL3⟩ : ∃ L3, L3 = ofL L a := ⟨_, rfl⟩
            rw [← hL3] at OF hb2 hY hll
            unfold sv at OF
            clear s1 s2 s3 s4 hL3 tb
            go_wp2_with fail
            refine OF.mono ?_
            rintro e w3 ⟨rfl, v3, tb3, tr, _⟩
            have B3 := below_trn bel tr OG
            clear OF tr OG
            have hk : L3.idxOf b < L3.length := List.idxOf_lt_length_iff.2 hb2
            have TX := text_in _ _ _ v3 L3 (L3.idxOf b) hk w3 tb3
            rw [List.getElem_idxOf hk] at TX
            have hY2 : ((L3.idxOf b : Int) + 1) = (Y : Int) := by unfold numN at hY; rw [if_pos hb2] at hY; omega
            rw [hY2] at TX
            unfold sv at TX
            clear hY hY2 hk tb3 hb2
            go_wp2_with fail
            refine TX.mono ?_
            rintro e w4 ⟨rfl, rfl⟩
            have hz : ((X : Int) == (X : Int)) = true := by simp
            have hbb : ((str b).toList == (str b).toList) = true := by simp
            by_cases hab : a = b
            · have e1 : ((str a).toList == (str b).toList) = true := by rw [hab]; simp
              have e2 : ((X : Int) == (Y : Int)) = true := by have h := HXY.out.2 hab; rw [h]; simp
              have HABB := Lib.hid hab
              clear hab
              go_wp2_with (go_at_call 17; refine (awake_any _ (HT.out.below B3)).mono ?_; rintro e w9 ⟨rfl, g9⟩)
              go_ret
              exact ⟨rfl, chain B3 g9⟩
            · have e1 : ((str a).toList == (str b).toList) = false := by rw [str_tl, str_tl]; simpa using hab
              have e2 : ((X : Int) == (Y : Int)) = false := beq_false_of_ne (fun h => hab (HXY.out.1 (by omega)))
              have HABB := Lib.hid hab
              clear hab
              go_wp2_with (go_at_call 17; refine (awake_any _ (HT.out.below B3)).mono ?_; rintro e w9 ⟨rfl, g9⟩)
              go_ret
              exact ⟨rfl, chain B3 g9⟩
        · skip
          obtain ⟨s1, s2, s3, s4⟩ := HS.out
          have OF := of_any _ _ _ v L a (by unfold maxLen; omega) (by omega) wr tb bel.size
          have OG := tb.own_ge
          rw [num_ofL s1, s3] at OF
          have hb2 : b ∈ ofL L a := ofL_sub s2
          have hY : numN (ofL L a) b = Y := (num_ofL s2).trans s4
          have hll := ofL_len L a
          obtain ⟨L3, hL3⟩ : ∃ L3, L3 = ofL L a := ⟨_, rfl⟩
          rw [← hL3] at OF hb2 hY hll
          unfold sv at OF
          clear s1 s2 s3 s4 hL3 tb
          go_wp2_with fail
          refine OF.mono ?_
          rintro e w3 ⟨rfl, v3, tb3, tr, _⟩
          have B3 := below_trn bel tr OG
          clear OF tr OG
          have hk : L3.idxOf b < L3.length := List.idxOf_lt_length_iff.2 hb2
          have TX := text_in _ _ _ v3 L3 (L3.idxOf b) hk w3 tb3
          rw [List.getElem_idxOf hk] at TX
          have hY2 : ((L3.idxOf b : Int) + 1) = (Y : Int) := by unfold numN at hY; rw [if_pos hb2] at hY; omega
          rw [hY2] at TX
          unfold sv at TX
          clear hY hY2 hk tb3 hb2
          go_wp2_with fail
          refine TX.mono ?_
          rintro e w4 ⟨rfl, rfl⟩
          have hz : ((X : Int) == (X : Int)) = true := by simp
          have hbb : ((str b).toList == (str b).toList) = true := by simp
          by_cases hab : a = b
          · have e1 : ((str a).toList == (str b).toList) = true := by rw [hab]; simp
            have e2 : ((X : Int) == (Y : Int)) = true := by have h := HXY.out.2 hab; rw [h]; simp
            have HABB := Lib.hid hab
            clear hab
            go_wp2_with (go_at_call 17; refine (awake_any _ (HT.out.below B3)).mono ?_; rintro e w9 ⟨rfl, g9⟩)
            go_ret
            exact ⟨rfl, chain B3 g9⟩
          · have e1 : ((str a).toList == (str b).toList) = false := by rw [str_tl, str_tl]; simpa using hab
            have e2 : ((X : Int) == (Y : Int)) = false := beq_false_of_ne (fun h => hab (HXY.out.1 (by omega)))
            have HABB := Lib.hid hab
            clear hab
            go_wp2_with (go_at_call 17; refine (awake_any _ (HT.out.below B3)).mono ?_; rintro e w9 ⟨rfl, g9⟩)
            go_ret
            exact ⟨rfl, chain B3 g9⟩
end Go.Proofs.YtblhgliegoickaaDoor
