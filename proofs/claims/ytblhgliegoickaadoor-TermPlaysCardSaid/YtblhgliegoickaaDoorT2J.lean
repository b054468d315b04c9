/- The law TermPlays. Written by wip/tools/gen2j.py. -/
import Derived.Test.YtblhgliegoickaaDoorT2I
namespace Go.Proofs.YtblhgliegoickaaDoor
open Go Go.RowKit Go.Maps
set_option linter.unusedVariables false
set_option linter.unusedSimpArgs false
theorem TB.own_lt {w : World} {base B M : Nat} {v : Value} {L : List Txt} (h : TB w base B M v L) : ∀ k, ownR B M v k → k < w.heap.size := by
  rintro k (rfl | rfl | e)
  · exact lt_of_block h.blk
  · obtain ⟨es, clock, h3, _⟩ := h.map; exact lt_of_block h3
  · exact (Go.Proofs.YtblhgliegoickaaDoor.own_lt h.row k e).2
theorem int_neq {a b : Int} (h : a = b) : (a != b) = false := by simp [h]
theorem int_info : (Tryd.prog.info? 3).map (fun i => (i.zero, i.size, i.bytes)) = some (some (.int .i64 0), 1, 8) := by kernel_rfl
set_option maxRecDepth 100000 in
set_option maxHeartbeats 4000000 in
theorem law_plays (v1 : Value) (n : Nat) (w : World) (h1 : RdActs w v1 n) (ht : Tab w) :
    Calls Tryd.prog 3 #[v1] w fun e w' => e = .returned (.bool true) ∧ Below w.heap.size w w' := by
  obtain ⟨ao, cap, rfl, hc, hm, HA⟩ := h1
  have HT := Lib.hid ht
  clear ht
  go_enter Tryd.func3, Tryd.ntmps3
  go_wp2_with fail
  refine (new_any w).mono ?_
  rintro e w0 ⟨rfl, B0, tb0⟩
  go_wp2_with fail
  go_loopw [3, 4, 5] (fun t lv i wr => ∃ (j B M : Nat) (v : Value) (L : List Txt), j ≤ n ∧ j ≤ 80 ∧ t = .pointer (some ⟨B, 0, none⟩) ∧ i = .int .i64 (j : Int) ∧ Below w.heap.size w wr ∧ Two wr w.heap.size B M v L lv L ∧ L.length ≤ j) (fun _ _ i _ => 100 - (intOf i).toNat)
  case atStart => exact ⟨0, _, _, _, [], by omega, by omega, rfl, rfl, B0, ⟨tb0, World.ownsRow_nil _ _ _ _, fun k hk => by cases hk⟩, by simp⟩
  case round =>
    obtain ⟨j, B, M, v, L, hj, hj80, rfl, rfl, bel, two, hl⟩ := hrel
    obtain ⟨al0, cl0, rfl⟩ := own_slice' two.row
    by_cases hjx : j < n
    · by_cases hj8 : j < 80
      · obtain ⟨b, off, d, k, s, z, xs, rfl, hb, c0, c1, c2, c3, hs, hz, hf, hk⟩ := HA.out j hjx
        have c0 := (bel.cell (p := ⟨b, off + j * 4, none⟩) hb).trans c0
        have c1 := (bel.cell (p := ⟨b, off + (j * 4 + 1), none⟩) hb).trans c1
        have c2 := (bel.cell (p := ⟨b, off + (j * 4 + 2), none⟩) hb).trans c2
        have c3 := (bel.cell (p := ⟨b, off + (j * 4 + 3), none⟩) hb).trans c3
        rw [← Nat.add_assoc] at c1 c2 c3
        obtain ⟨az, capz, rfl, hcz, _⟩ := rdv_open hz
        obtain ⟨W8, hW8⟩ : ∃ W8, W8 = wr.alloc (.cells #[.int .i64 d, .int .i64 k, .string (str s), .slice az xs.length capz] 28) := ⟨_, rfl⟩
        have q8 : W8.heap[wr.heap.size]? = some (.cells #[.int .i64 d, .int .i64 k, .string (str s), .slice az xs.length capz] 28 (0, 0)) := by rw [hW8]; exact heap_alloc_new _ _
        have A8 : Below wr.heap.size wr W8 := by rw [hW8]; exact (Below.refl _ _).alloc (Nat.le_refl _) _
        have B1 := chain bel A8
        have B1x := B1
        have two1 := two.below A8
        have NO := Lib.hid (fun (tb : TB W8 w.heap.size B M v L) => show ¬ ownR B M v wr.heap.size from by
          rintro (e | e | e)
          · have := lt_of_block two.tb.blk; omega
          · obtain ⟨es, clock, h3, _⟩ := two.tb.map; have := lt_of_block h3; omega
          · have := (own_lt two.tb.row _ e).2; omega)
        subst hW8
        clear two A8
        by_cases h0 : d = 0
        · subst h0
          have OF := of_any w.heap.size B M v L s hs (by omega) _ two1.tb B1.size
          obtain ⟨L', hL'⟩ : ∃ L', L' = ofL L s := ⟨_, rfl⟩
          obtain ⟨X, hX⟩ : ∃ X : Int, X = (numN (ofL L s) s : Int) := ⟨_, rfl⟩
          have hl1 : L'.length ≤ L.length + 1 := by rw [hL']; exact ofL_len L s
          have RO := fun w' hb' r' => refOf_any w.heap.size (.slice al0 L.length cl0) L (by omega) s w' hb' r'
          rw [← hX, ← hL'] at OF
          simp only [← hX] at RO
          simp only [← hL'] at RO
          have hxx := int_neq (rfl : X = X)
          have GE := two1.tb.own_ge
          have TW1 := Lib.hid two1
          have RO := Lib.hid RO
          unfold sv at OF
          clear hX hL' two1
          go_wp2_with fail
          refine OF.mono ?_
          rintro e w1 ⟨rfl, v2, tb2, tr, hv2⟩
          have two2 := TW1.out.of tb2 tr hv2
          have B2 := below_trn B1 tr GE
          have q9 := (tr.block _ (lt_of_block q8) (NO.out TW1.out.tb)).trans q8
          obtain ⟨d0, d1, d2, d3, _⟩ := block_cells4 q9
          have RO2 := RO.out w1 B2.size two2.row
          clear OF tr hv2 tb2 RO q8
          go_wp2_with fail
          refine RO2.mono ?_
          rintro e w2 ⟨lv2, rfl, r2, tr2, hl2⟩
          have two3 := two2.ref r2 tr2 hl2
          have B3 := below_trn B2 tr2 (fun k hk => (own_lt two2.row k hk).1)
          clear RO2 r2 tr2 hl2 two2 q9 d0 d1 d2 d3
          go_wp2_with fail
          obtain ⟨al, cl, rfl⟩ := own_slice' two3.row
          have CN := count_any _ _ _ _ _ _ two3.tb
          have hll := int_neq (rfl : (L'.length : Int) = L'.length)
          have TW := Lib.hid two3
          clear two3
          go_wp2_with fail
          refine CN.mono ?_
          rintro e w9 ⟨rfl, rfl⟩
          go_wp2_with fail
          go_roundw
          case rel => exact ⟨j + 1, _, _, _, _, by omega, by omega, rfl, by go_num, B3, TW.out, by omega⟩
          case measure => simp [intOf]; omega
        · by_cases h1 : d = 1
          · subst h1
            have OF := of_any w.heap.size B M v L s hs (by omega) _ two1.tb B1.size
            obtain ⟨L', hL'⟩ : ∃ L', L' = ofL L s := ⟨_, rfl⟩
            obtain ⟨X, hX⟩ : ∃ X : Int, X = (numN (ofL L s) s : Int) := ⟨_, rfl⟩
            have hl1 : L'.length ≤ L.length + 1 := by rw [hL']; exact ofL_len L s
            have RO := fun w' hb' r' => refOf_any w.heap.size (.slice al0 L.length cl0) L (by omega) s w' hb' r'
            rw [← hX, ← hL'] at OF
            simp only [← hX] at RO
            simp only [← hL'] at RO
            have hxx := int_neq (rfl : X = X)
            have GE := two1.tb.own_ge
            have TW1 := Lib.hid two1
            have RO := Lib.hid RO
            unfold sv at OF
            clear hX hL' two1
            go_wp2_with fail
            refine OF.mono ?_
            rintro e w1 ⟨rfl, v2, tb2, tr, hv2⟩
            have two2 := TW1.out.of tb2 tr hv2
            have B2 := below_trn B1 tr GE
            have q9 := (tr.block _ (lt_of_block q8) (NO.out TW1.out.tb)).trans q8
            obtain ⟨d0, d1, d2, d3, _⟩ := block_cells4 q9
            have RO2 := RO.out w1 B2.size two2.row
            clear OF tr hv2 tb2 RO q8
            go_wp2_with fail
            refine RO2.mono ?_
            rintro e w2 ⟨lv2, rfl, r2, tr2, hl2⟩
            have two3 := two2.ref r2 tr2 hl2
            have B3 := below_trn B2 tr2 (fun k hk => (own_lt two2.row k hk).1)
            clear RO2 r2 tr2 hl2 two2 q9 d0 d1 d2 d3
            go_wp2_with fail
            obtain ⟨al, cl, rfl⟩ := own_slice' two3.row
            have CN := count_any _ _ _ _ _ _ two3.tb
            have hll := int_neq (rfl : (L'.length : Int) = L'.length)
            have TW := Lib.hid two3
            clear two3
            go_wp2_with fail
            refine CN.mono ?_
            rintro e w9 ⟨rfl, rfl⟩
            go_wp2_with fail
            go_roundw
            case rel => exact ⟨j + 1, _, _, _, _, by omega, by omega, rfl, by go_num, B3, TW.out, by omega⟩
            case measure => simp [intOf]; omega
          · by_cases h2 : d = 2
            · subst h2
              have HX := has_any w.heap.size B M v L s hs _ two1.tb
              have HR := refHas_any (.slice al0 L.length cl0) L (by omega) s _ (own_rdv two1.row)
              obtain ⟨X, hX⟩ : ∃ X : Int, X = (numN L s : Int) := ⟨_, rfl⟩
              rw [← hX] at HX HR
              have hxx := int_neq (rfl : X = X)
              unfold sv at HX
              by_cases hin : s ∈ L
              · have hp : (0 : Int) < X := by rw [hX]; unfold numN; rw [if_pos hin]; omega
                rw [decide_eq_true hin] at HX
                clear hX hin
                go_wp2_with fail
                refine HX.mono ?_
                rintro e w1 ⟨rfl, rfl⟩
                go_wp2_with fail
                refine HR.mono ?_
                rintro e w2 ⟨rfl, rfl⟩
                clear HX HR
                go_wp2_with fail
                have CN := count_any _ _ _ _ _ _ two1.tb
                have hll := int_neq (rfl : (L.length : Int) = L.length)
                have TW := Lib.hid two1
                clear two1
                go_wp2_with fail
                refine CN.mono ?_
                rintro e w9 ⟨rfl, rfl⟩
                go_wp2_with fail
                go_roundw
                case rel => exact ⟨j + 1, _, _, _, _, by omega, by omega, rfl, by go_num, B1, TW.out, by omega⟩
                case measure => simp [intOf]; omega
              · have hp : X = 0 := by rw [hX, num_no hin]; rfl
                rw [decide_eq_false hin] at HX
                subst hp
                clear hX hin
                go_wp2_with fail
                refine HX.mono ?_
                rintro e w1 ⟨rfl, rfl⟩
                go_wp2_with fail
                refine HR.mono ?_
                rintro e w2 ⟨rfl, rfl⟩
                clear HX HR
                go_wp2_with fail
                have CN := count_any _ _ _ _ _ _ two1.tb
                have hll := int_neq (rfl : (L.length : Int) = L.length)
                have TW := Lib.hid two1
                clear two1
                go_wp2_with fail
                refine CN.mono ?_
                rintro e w9 ⟨rfl, rfl⟩
                go_wp2_with fail
                go_roundw
                case rel => exact ⟨j + 1, _, _, _, _, by omega, by omega, rfl, by go_num, B1, TW.out, by omega⟩
                case measure => simp [intOf]; omega
            · by_cases h3 : d = 3
              · subst h3
                have rl := rdt_open (own_rdv two1.row)
                by_cases hk1 : 1 ≤ k
                · by_cases hk2 : k ≤ (L.length : Int)
                  · obtain ⟨i, rfl⟩ : ∃ i : Nat, k = (i : Int) + 1 := ⟨(k - 1).toNat, by omega⟩
                    have hi : i < L.length := by omega
                    have TX := text_in w.heap.size B M v L i hi _ two1.tb
                    obtain ⟨_, _, hv3, _, HL⟩ := rl
                    cases hv3
                    obtain ⟨bl, ol, rfl, hbl, hcl⟩ := HL.out (by omega)
                    have hc9 := hcl i hi
                    obtain ⟨x, hx⟩ : ∃ x, x = L[i] := ⟨_, rfl⟩
                    rw [← hx] at TX hc9
                    have f1 : (i : Int) + 1 - 1 = (i : Int) := by omega
                    have hs1 : ((str x).toList == (str x).toList) = true := by simp
                    have hs2 : ((str x).toList != (str x).toList) = false := by simp
                    unfold sv at TX hc9
                    clear hx hcl
                    go_wp2_with fail
                    refine TX.mono ?_
                    rintro e w1 ⟨rfl, rfl⟩
                    clear TX
                    go_wp2_with fail
                    have CN := count_any _ _ _ _ _ _ two1.tb
                    have hll := int_neq (rfl : (L.length : Int) = L.length)
                    have TW := Lib.hid two1
                    clear two1
                    go_wp2_with fail
                    refine CN.mono ?_
                    rintro e w9 ⟨rfl, rfl⟩
                    go_wp2_with fail
                    go_roundw
                    case rel => exact ⟨j + 1, _, _, _, _, by omega, by omega, rfl, by go_num, B1, TW.out, by omega⟩
                    case measure => simp [intOf]; omega
                  · have TX := text_out w.heap.size B M v L k (by omega) _ two1.tb
                    unfold sv at TX
                    rw [show str [] = ByteArray.mk #[] from rfl] at TX
                    go_wp2_with fail
                    refine TX.mono ?_
                    rintro e w1 ⟨rfl, rfl⟩
                    clear TX
                    go_wp2_with fail
                    have CN := count_any _ _ _ _ _ _ two1.tb
                    have hll := int_neq (rfl : (L.length : Int) = L.length)
                    have TW := Lib.hid two1
                    clear two1
                    go_wp2_with fail
                    refine CN.mono ?_
                    rintro e w9 ⟨rfl, rfl⟩
                    go_wp2_with fail
                    go_roundw
                    case rel => exact ⟨j + 1, _, _, _, _, by omega, by omega, rfl, by go_num, B1, TW.out, by omega⟩
                    case measure => simp [intOf]; omega
                · have TX := text_out w.heap.size B M v L k (by omega) _ two1.tb
                  unfold sv at TX
                  rw [show str [] = ByteArray.mk #[] from rfl] at TX
                  go_wp2_with fail
                  refine TX.mono ?_
                  rintro e w1 ⟨rfl, rfl⟩
                  clear TX
                  go_wp2_with fail
                  have CN := count_any _ _ _ _ _ _ two1.tb
                  have hll := int_neq (rfl : (L.length : Int) = L.length)
                  have TW := Lib.hid two1
                  clear two1
                  go_wp2_with fail
                  refine CN.mono ?_
                  rintro e w9 ⟨rfl, rfl⟩
                  go_wp2_with fail
                  go_roundw
                  case rel => exact ⟨j + 1, _, _, _, _, by omega, by omega, rfl, by go_num, B1, TW.out, by omega⟩
                  case measure => simp [intOf]; omega
              · by_cases h4 : d = 4
                · subst h4
                  have hxs : (xs.take 60).length ≤ 60 := by simp; omega
                  have hmin : min xs.length 60 = (xs.take 60).length := by simp [Nat.min_comm]
                  have rxf : ∀ w', Below w.heap.size w w' → RdV w' (.slice az (xs.take 60).length capz) ((xs.take 60).map iv) := fun w' g => by
                    have := rdv_cut (hz.below g (Nat.le_refl _)) 60
                    rw [hmin] at this
                    exact this
                  have hf6 : ∀ x ∈ xs.take 60, fitsI x := fun x hx => hf x (List.mem_of_mem_take hx)
                  have FW0 := fun w' => few_any xs.length az capz hcz w'
                  simp only [hmin] at FW0
                  obtain ⟨xs6, hx6⟩ : ∃ xs6, xs6 = xs.take 60 := ⟨_, rfl⟩
                  rw [← hx6] at hxs rxf hf6
                  simp only [← hx6] at FW0
                  have FW := Lib.hid FW0
                  have RXF := Lib.hid rxf
                  obtain ⟨i0, hi0, hz0, hz1, hz2⟩ := info_parts int_info
                  have OF0 := fun w' z' tb hb hz' ht' => list_any w.heap.size B M v L z' xs6 (by omega) hf6 (by omega) w' tb hb hz' ht'
                  have RO0 := fun w' hb' r' => refOf_any w.heap.size (.slice al0 L.length cl0) L (by omega) (digN xs6) w' hb' r'
                  have DG0 := fun w' z' hz' => refDigits_any z' xs6 (by omega) hf6 w' hz'
                  obtain ⟨s6, hs6⟩ : ∃ s6, s6 = digN xs6 := ⟨_, rfl⟩
                  obtain ⟨L', hL'⟩ : ∃ L', L' = ofL L s6 := ⟨_, rfl⟩
                  obtain ⟨X, hX⟩ : ∃ X : Int, X = (numN (ofL L s6) s6 : Int) := ⟨_, rfl⟩
                  have hl1 : L'.length ≤ L.length + 1 := by rw [hL']; exact ofL_len L s6
                  simp only [← hs6] at OF0 RO0 DG0
                  simp only [← hX] at OF0 RO0
                  simp only [← hL'] at OF0 RO0
                  have OF := Lib.hid OF0
                  have RO := Lib.hid RO0
                  have DG := Lib.hid DG0
                  have hxx := int_neq (rfl : X = X)
                  have TW1 := Lib.hid two1
                  have HSZ := Lib.hid (show ((wr.alloc (.cells #[.int .i64 4, .int .i64 k, .string (str s), .slice az xs.length capz] 28))).heap.size = wr.heap.size + 1 from by simp)
                  have hlit := World.ownsRow_lit (e := 3) (size := 1) (wr.alloc (.cells #[.int .i64 4, .int .i64 k, .string (str s), .slice az xs.length capz] 28)) #[] 0 (Nat.le_refl _) (by decide) rfl
                  rw [HSZ.out] at hlit
                  have HLIT := Lib.hid hlit
                  clear hX hL' two1 hs6 hx6 hf6 rxf hmin hf FW0 OF0 RO0 DG0 hlit
                  go_wp2_with fail
                  refine (FW.out _).mono ?_
                  rintro e w1 ⟨rfl, rfl⟩
                  go_wp2_with (at_builtin; refine wpList_app_rdv (wr.alloc (.cells #[.int .i64 4, .int .i64 k, .string (str s), .slice az xs.length capz] 28)) rfl (.tmp 141) (.tmp 144) 26 rfl (wr.heap.size + 1) 3 i0 (.int .i64 0) 8 Tryd.underlying26 hi0 hz0 hz1 hz2 rfl (.slice (some ⟨wr.heap.size + 1, 0, none⟩) 0 0) 0 [] rfl HLIT.out (.slice az xs6.length capz) (xs6.map iv) rfl ((RXF.out _ B1).below ((Below.refl _ _).alloc (Nat.le_refl _) _) (Nat.le_refl _)) (by intro u hu; obtain ⟨x, _, rfl⟩ := List.mem_map.1 hu; rfl) (by rw [List.length_map]; unfold maxLen; omega) (by rw [List.length_map]; omega) (Nat.le_of_eq HSZ.out.symm) ((Below.refl _ _).alloc (Nat.le_of_eq HSZ.out.symm) _) ?_; intro v3 w3 o3 g3; rw [Nat.zero_add, List.nil_append, List.length_map] at o3; have G3 := Lib.hid g3; clear g3)
                  have g3 := G3.out
                  rw [← HSZ.out] at g3
                  obtain ⟨a3, k3, rfl⟩ := own_slice' o3
                  have two2 := TW1.out.below g3
                  have B2 := chain B1 g3
                  have q9 := (g3.block _ (lt_of_block q8)).trans q8
                  have LC := OF.out w3 (.slice a3 xs6.length k3) two2.tb B2.size (own_rdv o3) (HT.out.below B2)
                  clear g3 q8 o3
                  refine LC.mono ?_
                  rintro e w4 ⟨rfl, v4, tb4, tr, hv4⟩
                  have two3 := two2.of tb4 tr hv4
                  have B3 := below_trn B2 tr two2.tb.own_ge
                  have q10 := (tr.block _ (lt_of_block q9) (NO.out TW1.out.tb)).trans q9
                  obtain ⟨d0, d1, d2, d3, _⟩ := block_cells4 q10
                  have RO2 := RO.out w4 B3.size two3.row
                  have DG2 := DG.out w4 _ (RXF.out _ B3)
                  clear LC tr hv4 tb4 RO two2 q9
                  go_wp2_with fail
                  refine (FW.out _).mono ?_
                  rintro e w5 ⟨rfl, rfl⟩
                  go_wp2_with fail
                  refine DG2.mono ?_
                  rintro e w6 ⟨rfl, rfl⟩
                  go_wp2_with fail
                  refine RO2.mono ?_
                  rintro e w7 ⟨lv2, rfl, r2, tr2, hl2⟩
                  have two4 := two3.ref r2 tr2 hl2
                  have B4 := below_trn B3 tr2 (fun k hk => (own_lt two3.row k hk).1)
                  clear RO2 DG2 r2 tr2 hl2 two3 q10 d0 d1 d2 d3
                  go_wp2_with fail
                  obtain ⟨al, cl, rfl⟩ := own_slice' two4.row
                  have CN := count_any _ _ _ _ _ _ two4.tb
                  have hll := int_neq (rfl : (L'.length : Int) = L'.length)
                  have TW := Lib.hid two4
                  clear two4
                  go_wp2_with fail
                  refine CN.mono ?_
                  rintro e w9 ⟨rfl, rfl⟩
                  go_wp2_with fail
                  go_roundw
                  case rel => exact ⟨j + 1, _, _, _, _, by omega, by omega, rfl, by go_num, B4, TW.out, by omega⟩
                  case measure => simp [intOf]; omega
                · have n0 := beq_false_of_ne h0
                  have n1 := beq_false_of_ne h1
                  have n2 := beq_false_of_ne h2
                  have n3 := beq_false_of_ne h3
                  have n4 := beq_false_of_ne h4
                  have CL := clone_any w.heap.size B M v L _ two1.tb (by omega)
                  obtain ⟨i0, hi0, hz0, hz1, hz2⟩ := info_parts str_info
                  have OF := Lib.hid (fun w' tb hb => of_any w.heap.size B M v L s hs (by omega) w' tb hb)
                  have TW1 := Lib.hid two1
                  have olt := Lib.hid two1.tb.own_lt
                  clear two1
                  go_wp2_with fail
                  refine CL.mono ?_
                  rintro e w1 ⟨B', M', v', rfl, g1, tbc⟩
                  have two2 := TW1.out.below g1
                  have B2 := chain B1 g1
                  have q9 := (g1.block _ (lt_of_block q8)).trans q8
                  obtain ⟨d0, d1, d2, d3, _⟩ := block_cells4 q9
                  have OF2 := OF.out w1 two2.tb B2.size
                  unfold sv at OF2
                  clear CL q8 g1
                  go_wp2_with fail
                  refine OF2.mono ?_
                  rintro e w2 ⟨rfl, v2, tb2, tr, hv2⟩
                  have tbc2 := tbc.kept (fun q hq ho => tr.block q hq (fun h => by have a := olt.out q h; have b := tbc.own_ge q ho; omega))
                  have two3 := two2.of tb2 tr hv2
                  have B3 := below_trn B2 tr two2.tb.own_ge
                  have r3 := own_rdv two3.row
                  have B13 := Lib.hid (And.intro B1.size B3.size)
                  clear OF2 tr hv2 tb2 two3 two2 q9 d0 d1 d2 d3 tbc
                  go_wp2_with (at_builtin; refine wpList_app_rdv w2 rfl (.tmp 51) (.tmp 52) 25 rfl w2.heap.size 9 i0 (.string ByteArray.empty) 16 Tryd.underlying25 hi0 hz0 hz1 hz2 rfl (.slice (some ⟨w2.heap.size, 0, none⟩) 0 0) 0 [] rfl (World.ownsRow_lit _ #[] 0 (Nat.le_refl _) (by decide) rfl) (.slice al0 L.length cl0) (L.map sv) rfl (r3.below ((Below.refl _ _).alloc (Nat.le_refl _) _) (Nat.le_refl _)) (by intro u hu; obtain ⟨x, _, rfl⟩ := List.mem_map.1 hu; rfl) (by rw [List.length_map]; unfold maxLen; omega) (by rw [List.length_map]; omega) (Nat.le_refl _) ((Below.refl _ _).alloc (Nat.le_refl _) _) ?_; intro v5 w5 o5 g5; rw [Nat.zero_add, List.nil_append, List.length_map] at o5; have G5 := Lib.hid g5; clear g5)
                  have g5 := G5.out
                  have two5 : Two w5 w.heap.size B' M' v' L v5 L := Two.fresh (tbc2.below g5) (own_on o5 (Below.refl _ _) B13.out.2) B13.out.1 (fun q hq ho => by have a := (own_lt o5 q hq).1; have b := tbc2.own_lt q ho; omega)
                  have B5 := chain B3 g5
                  clear g5 o5 tbc2 r3
                  obtain ⟨al, cl, rfl⟩ := own_slice' two5.row
                  have CN := count_any _ _ _ _ _ _ two5.tb
                  have hll := int_neq (rfl : (L.length : Int) = L.length)
                  have TW := Lib.hid two5
                  clear two5
                  go_wp2_with fail
                  refine CN.mono ?_
                  rintro e w9 ⟨rfl, rfl⟩
                  go_wp2_with fail
                  go_roundw
                  case rel => exact ⟨j + 1, _, _, _, _, by omega, by omega, rfl, by go_num, B5, TW.out, by omega⟩
                  case measure => simp [intOf]; omega
      · skip
        go_wp2_with (go_at_call 17; refine (awake_any _ (HT.out.below bel)).mono ?_; rintro e w9 ⟨rfl, g9⟩)
        go_ret
        exact ⟨rfl, chain bel g9⟩
    · skip
      go_wp2_with (go_at_call 17; refine (awake_any _ (HT.out.below bel)).mono ?_; rintro e w9 ⟨rfl, g9⟩)
      go_ret
      exact ⟨rfl, chain bel g9⟩
end Go.Proofs.YtblhgliegoickaaDoor
