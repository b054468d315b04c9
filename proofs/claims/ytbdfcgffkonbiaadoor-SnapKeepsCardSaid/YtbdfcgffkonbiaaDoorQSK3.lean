/- Snaps: the document's Keep. Written by wip/tools/gen14j.py. -/
import Derived.Test.YtbdfcgffkonbiaaDoorQSK2
namespace Go.Proofs.YtbdfcgffkonbiaaDoor
open Go Go.RowKit
set_option linter.unusedVariables false
set_option linter.unusedSimpArgs false
theorem op_build2 {P : Program} {Q : Exit → Act → World → Prop} {o : Oper} {a : Act} {w : World} {K : Act → World → Prop} (t : TypeId) (x y : Operand) (ho : o.op = .build t #[(0, x), (1, y)]) (u v r : Value) (hx : a.eval x = u) (hy : a.eval y = v)
    (hrun : (Instr.build t #[(0, u), (1, v)]).run P w = .ok r w) (hK : K (a.put o.dst r) w) : o.wp P a w K Q := by
  unfold Oper.wp execOp
  simp [ho, hx, hy, hrun, Result.andThen]
  exact hK
theorem wpList_build2 {P : Program} {ops : Array Oper} {rest : List Oper} {o : Oper} {a : Act} {w : World} {Q : Exit → Act → World → Prop} (hgd : o.guard = none) (t : TypeId) (x y : Operand) (ho : o.op = .build t #[(0, x), (1, y)]) (u v r : Value) (hx : a.eval x = u) (hy : a.eval y = v)
    (hrun : (Instr.build t #[(0, u), (1, v)]).run P w = .ok r w) (h : wpList P ops Q rest (a.put o.dst r) w) : wpList P ops Q (o :: rest) a w :=
  wpList_plain hgd fun _ hK => op_build2 t x y ho u v r hx hy hrun (hK _ _ h)
theorem keep18 {L : List Sn} {x : Sn} (hi : isSn L = true) {k : Nat} (hk : k < L.length) (h : x.q ≤ L[k].q) : keepE L x = 18 := by
  obtain ⟨m, hm⟩ : ∃ m, L.length = m + 1 := ⟨L.length - 1, by omega⟩
  have hml : m < L.length := by omega
  have hc : 0 < L.length ∧ x.q ≤ (L.getD (L.length - 1) sn0).q := by
    refine ⟨by omega, ?_⟩
    rw [hm, Nat.add_sub_cancel, getD_at hml]
    rcases Nat.lt_or_eq_of_le (show k ≤ m by omega) with h4 | h4
    · have := isSn_srt hi k m hk hml h4; omega
    · subst h4; exact h
  unfold keepE
  rw [if_neg (by rw [hi]; simp), if_pos hc]
theorem keep_lt {L : List Sn} {x : Sn} (hi : isSn L = true) (h : ∀ i (hi : i < L.length), L[i].q < x.q) : keepE L x = (chk14 (keepL L x)).1 := by
  unfold keepE
  have hc : ¬ (0 < L.length ∧ x.q ≤ (L.getD (L.length - 1) sn0).q) := by
   rintro ⟨h0, h1⟩
   obtain ⟨m, hm⟩ : ∃ m, L.length = m + 1 := ⟨L.length - 1, by omega⟩
   have hml : m < L.length := by omega
   rw [hm, Nat.add_sub_cancel, getD_at hml] at h1
   have := h m hml; omega
  rw [if_neg (by rw [hi]; simp), if_neg hc]
/-- What stays of a list's first k snaps. -/
def keepA (L : List Sn) (k : Nat) : List Sn := if L.length = 8 then (L.take k).drop 1 else L.take k
theorem keepA_end (L : List Sn) (x : Sn) : keepA L L.length ++ [x] = keepL L x := by unfold keepA keepL; rw [List.take_length]
theorem keepA_len (L : List Sn) (k : Nat) : (keepA L k).length ≤ k := by unfold keepA; split <;> simp <;> omega
theorem keepA_in {L : List Sn} {k : Nat} (hk : k < L.length) (h : 0 < k ∨ L.length ≠ 8) : keepA L (k + 1) = keepA L k ++ [L[k]] := by
  unfold keepA
  rw [List.take_succ_eq_append_getElem hk]
  by_cases h8 : L.length = 8
  · rw [if_pos h8, if_pos h8, List.drop_append_of_le_length (by rw [List.length_take]; omega)]
  · rw [if_neg h8, if_neg h8]
theorem keepA_out {L : List Sn} (h8 : L.length = 8) : keepA L 1 = keepA L 0 := by
  unfold keepA
  rw [if_pos h8, if_pos h8, List.drop_of_length_le (by rw [List.length_take]; omega), List.drop_of_length_le (by rw [List.length_take]; omega)]
set_option maxRecDepth 100000 in
set_option maxHeartbeats 2000000 in
theorem refKeep14_any (v : Value) (L : List Sn) (q : Int) (cs : Array Value) (s : St) (w : World) (tab : TabAt w) (h : RdK 36 snC w v L) (hrs : RdSn w L) (hsz : SzSn L) (hln : LenSn L) (hx : RdS w cs s) (hxz : SzT s.lv) (hxw : WfT s.lv) (hxl : ∀ b, b < 16 → (s.lv b).length ≤ 100) (h20 : L.length ≤ 20) :
    Calls Tryd.prog 43 #[v, .int .i64 q, .agg cs] w (KeepP w L (mkSn q cs s)) := by
  obtain ⟨i0, hi0, hz0, hz1, hz2⟩ := snap_info
  have q5 := heap_alloc_new w (.cells cs 28)
  have bel := (Below.refl w.heap.size w).alloc (Nat.le_refl _) (.cells cs 28)
  have hiS := infoS hx.size
  have hA : snA (mkSn q cs s) = cs := mkSn_A hx.size hx.one
  have HBd := Lib.hid (show ∀ w, (Instr.build 77 #[(0, .int .i64 q), (1, .agg cs)]).run Tryd.prog w = .ok (.agg (snV (mkSn q cs s))) w from fun w => run_build w _ _ _ (built_snap hx.size hx.one))
  have HXR := Lib.hid (show RdS w (snA (mkSn q cs s)) (mkSn q cs s).s by rw [hA]; exact hx)
  have HXZ := Lib.hid (show SzT (mkSn q cs s).s.lv ∧ WfT (mkSn q cs s).s.lv from ⟨hxz, hxw⟩)
  have HXL := Lib.hid (show ∀ b, b < 16 → ((mkSn q cs s).s.lv b).length ≤ 100 from hxl)
  obtain ⟨x, hxm⟩ : ∃ x, x = mkSn q cs s := ⟨_, rfl⟩
  have HXQ := Lib.hid (show x.q = q by rw [hxm]; rfl)
  rw [← hxm] at HBd HXR HXZ HXL ⊢
  have HBs := Lib.hid hbs_one
  have IS0 := refIs14_any v L (w.alloc (.cells cs 28)) (tab.below bel) (h.below bel (Nat.le_refl _)) (hrs.below bel (Nat.le_refl _)) hsz hln
  obtain ⟨ao, cap, rfl, hc, hm, hr⟩ := RdK.open h
  have HRD := Lib.hid (show RdK 36 snC w (.slice ao L.length cap) L from hr)
  have HRS := Lib.hid hrs
  have HSZ := Lib.hid hsz
  have HLN := Lib.hid hln
  have HTAB := Lib.hid tab
  obtain ⟨Z, hZ⟩ : ∃ Z, Z = KeepP w L x := ⟨_, rfl⟩
  rw [← hZ]
  have HZ := Lib.hid hZ
  clear h hrs hsz hln hr hZ tab hx hxz hxw hxl hA hxm
  cases hi : isSn L with
  | false =>
    have HKE := Lib.hid (show keepE L x = 1 by unfold keepE; rw [if_pos hi])
    rw [hi] at IS0
    have IS := Lib.hid IS0
    clear IS0 hi
    go_enter Tryd.func43, Tryd.ntmps43
    go_wp2_with fail
    refine IS.out.mono ?_
    rintro e w2 ⟨rfl, g⟩
    have bel := chain bel g
    clear g
    go_wp2_with fail
    show Z (.returned _) _
    rw [HZ.out]
    exact ⟨fun h => absurd (HKE.out.symm.trans h) (by decide), fun _ => by rw [HKE.out]; rfl, bel⟩
  | true =>
    have HI := Lib.hid hi
    have H8 := (isSn_all hi).1
    rw [hi] at IS0
    have IS := Lib.hid IS0
    obtain ⟨OUT, hOUT⟩ : ∃ o, o = keepL L x := ⟨_, rfl⟩
    obtain ⟨N, hN⟩ : ∃ n, n = (chk14 OUT).1 := ⟨_, rfl⟩
    obtain ⟨M, hM⟩ : ∃ n, n = (chk14 OUT).2 := ⟨_, rfl⟩
    have HN := Lib.hid hN
    have HM := Lib.hid hM
    have HKO := Lib.hid hOUT
    clear IS0 hi hN hM hOUT
    go_enter Tryd.func43, Tryd.ntmps43
    go_wp2_with fail
    refine IS.out.mono ?_
    rintro e wA ⟨rfl, g⟩
    have Q5 := Lib.hid ((g.block _ (lt_of_block q5)).trans q5)
    have BW := Lib.hid (chain bel g)
    clear g bel q5
    go_wp2_with fail
    go_loopw [8] (fun i wr => ∃ k : Nat, k ≤ L.length ∧ i = .int .i64 (k : Int) ∧ Hid (∀ i (hi : i < L.length), i < k → L[i].q < q) ∧ wr = wA) (fun i _ => 200 - (intOf i).toNat)
    case atStart => exact ⟨0, Nat.zero_le _, rfl, Lib.hid (fun i _ h => by omega), rfl⟩
    case round =>
      obtain ⟨k, hk, rfl, HA, rfl⟩ := hrel
      by_cases hlt : k < L.length
      · obtain ⟨b, off, rfl, hb, hcy0⟩ := RdK.cell snC_len (HRD.out.below BW.out (Nat.le_refl _)) k hlt
        obtain ⟨y, hy⟩ : ∃ y, y = L[k]'hlt := ⟨_, rfl⟩
        rw [← hy] at hcy0
        have cq := sn_q (show ∀ i, i < 36 → wr.cell? ⟨b, off + k * 36 + i, none⟩ = (snC y)[i]? from fun i hi => by rw [Nat.add_assoc]; exact hcy0 i hi)
        have HY := Lib.hid hy
        clear hcy0 hy
        by_cases hq : q ≤ y.q
        · have t1 : decide (q ≤ y.q) = true := decide_eq_true hq
          have HKE := Lib.hid (show keepE L x = 18 from keep18 HI.out hlt (by rw [HXQ.out, ← HY.out]; exact hq))
          clear hq
          go_wp2_with fail
          show Z (.returned _) _
          rw [HZ.out]
          exact ⟨fun h => absurd (HKE.out.symm.trans h) (by decide), fun _ => by rw [HKE.out]; rfl, BW.out⟩
        · have t1 : decide (q ≤ y.q) = false := decide_eq_false hq
          have HN2 := Lib.hid (show ∀ i (hi : i < L.length), i < k + 1 → L[i].q < q from fun i hi hik => by
            rcases Nat.lt_or_eq_of_le (show i ≤ k by omega) with h4 | h4
            · exact HA.out i hi h4
            · subst h4; rw [← HY.out]; omega)
          clear hq
          go_wp2_with fail
          exact ⟨⟨k + 1, by omega, by push_cast; rfl, HN2, trivial⟩, by simp [intOf]; omega⟩
      · obtain rfl : k = L.length := by omega
        have HKE := Lib.hid (show keepE L x = N by rw [HN.out, HKO.out]; exact keep_lt HI.out (fun i hi => by rw [HXQ.out]; exact HA.out i hi hi))
        obtain ⟨wA, hwA⟩ : ∃ W, W = wr := ⟨_, rfl⟩
        subst hwA
        go_wp2_with fail
        go_loopw [9, 10] (fun o i wr => ∃ (k : Nat) (acc : List Sn), k ≤ L.length ∧ i = .int .i64 (k : Int) ∧ Hid (acc = keepA L k) ∧ acc.length ≤ k ∧ wr.ownsRow wA.heap.size 77 36 o acc.length (acc.flatMap snC) ∧ Below wA.heap.size wA wr) (fun _ i _ => 200 - (intOf i).toNat)
        case atStart => exact ⟨0, [], Nat.zero_le _, rfl, Lib.hid (by unfold keepA; split <;> simp), Nat.le_refl _, World.ownsRow_nil _ _ _ _, Below.refl _ _⟩
        case round =>
          obtain ⟨k, acc, hk, rfl, HAC, hac, own, bel⟩ := hrel
          by_cases hlt : k < L.length
          · obtain ⟨b, off, rfl, hb, hcy0⟩ := RdK.cell snC_len ((HRD.out.below BW.out (Nat.le_refl _)).below bel (Nat.le_refl _)) k hlt
            obtain ⟨y, hy⟩ : ∃ y, y = L[k]'hlt := ⟨_, rfl⟩
            rw [← hy] at hcy0
            have RG := sn_range (show ∀ i, i < 36 → wr.cell? ⟨b, off + k * 36 + i, none⟩ = (snC y)[i]? from fun i hi => by rw [Nat.add_assoc]; exact hcy0 i hi)
            have HY := Lib.hid hy
            clear hcy0 hy
            by_cases hk0 : 0 < k
            · have t1 : decide (0 < (k : Int)) = true := decide_eq_true (by omega)
              have t1n : decide (0 < k) = true := decide_eq_true hk0
              have HN2 := Lib.hid (show acc ++ [y] = keepA L (k + 1) by rw [keepA_in hlt (.inl hk0), ← HAC.out, ← HY.out])
              go_wp2_with (first | ((with_reducible refine wpList_load_part (o := ⟨some 46, _, _, _, _, _⟩) rfl 77 (.tmp 45) rfl _ (off + k * 36) rfl (snV y) _ RG Tryd.underlying77 rfl (infoSN y) ?_)) | ((with_reducible refine wpList_build1 (o := ⟨some 47, _, _, _, _, _⟩) rfl 70 (.tmp 46) rfl (snV y) rfl _ _ (HBs.out y wr) ?_)) | (at_builtin; refine wpList_app1k snC_len (by decide) wA rfl (.tmp 42) (.tmp 47) 70 rfl wA.heap.size 77 i0 (.agg zSN) 544 Tryd.underlying70 hi0 hz0 hz1 hz2 rfl _ acc rfl own 77 y (snC y) rfl rfl snC_one (by unfold maxLen; omega) (by omega) (Nat.le_refl _) bel ?_; intro vq w1 own2 hb2 hq2; clear hq2))
              exact ⟨⟨k + 1, acc ++ [y], by omega, by push_cast; rfl, HN2, by simp; omega, own2, hb2⟩, by simp [intOf]; omega⟩
            · have t1 : decide (0 < (k : Int)) = false := decide_eq_false (by omega)
              have t1n : decide (0 < k) = false := decide_eq_false hk0
              by_cases h8 : L.length = 8
              · have t2 : decide ((L.length : Int) < 8) = false := decide_eq_false (by omega)
                have t2n : decide (L.length < 8) = false := decide_eq_false (by omega)
                have HN2 := Lib.hid (show acc = keepA L (k + 1) by have : k = 0 := by omega
                                                                   subst this
                                                                   rw [keepA_out h8]; exact HAC.out)
                clear h8
                go_wp2_with fail
                exact ⟨⟨k + 1, acc, by omega, by push_cast; rfl, HN2, by omega, own, bel⟩, by simp [intOf]; omega⟩
              · have t2 : decide ((L.length : Int) < 8) = true := decide_eq_true (by omega)
                have t2n : decide (L.length < 8) = true := decide_eq_true (by omega)
                have HN2 := Lib.hid (show acc ++ [y] = keepA L (k + 1) by rw [keepA_in hlt (.inr h8), ← HAC.out, ← HY.out])
                go_wp2_with (first | ((with_reducible refine wpList_load_part (o := ⟨some 46, _, _, _, _, _⟩) rfl 77 (.tmp 45) rfl _ (off + k * 36) rfl (snV y) _ RG Tryd.underlying77 rfl (infoSN y) ?_)) | ((with_reducible refine wpList_build1 (o := ⟨some 47, _, _, _, _, _⟩) rfl 70 (.tmp 46) rfl (snV y) rfl _ _ (HBs.out y wr) ?_)) | (at_builtin; refine wpList_app1k snC_len (by decide) wA rfl (.tmp 42) (.tmp 47) 70 rfl wA.heap.size 77 i0 (.agg zSN) 544 Tryd.underlying70 hi0 hz0 hz1 hz2 rfl _ acc rfl own 77 y (snC y) rfl rfl snC_one (by unfold maxLen; omega) (by omega) (Nat.le_refl _) bel ?_; intro vq w1 own2 hb2 hq2; clear hq2))
                exact ⟨⟨k + 1, acc ++ [y], by omega, by push_cast; rfl, HN2, by simp; omega, own2, hb2⟩, by simp [intOf]; omega⟩
          · obtain rfl : k = L.length := by omega
            have HOUT2 := Lib.hid (show OUT = acc ++ [x] by rw [HAC.out, keepA_end, HKO.out])
            have q5 := (bel.block _ (lt_of_block Q5.out)).trans Q5.out
            by_cases hn : N = 0
            · have en : ((N : Int) != 0) = false := by simp [hn]
              have HN0 := Lib.hid hn
              clear hn
              go_wp2_with (first | ((with_reducible refine wpList_load_row (o := ⟨some 51, _, _, _, _, _⟩) rfl 28 (.tmp 5) rfl _ rfl _ cs (0, 0) _ q5 Tryd.underlying28 rfl hiS ?_)) | ((with_reducible refine wpList_build2 (o := ⟨some 52, _, _, _, _, _⟩) rfl 77 (.tmp 50) (.tmp 51) rfl (.int .i64 q) (.agg cs) (.agg (snV x)) rfl rfl (HBd.out _) ?_)) | ((with_reducible refine wpList_build1 (o := ⟨some 53, _, _, _, _, _⟩) rfl 70 (.tmp 52) rfl (snV x) rfl _ _ (HBs.out x wr) ?_)) | (at_builtin; refine wpList_app1k snC_len (by decide) wA rfl (.tmp 49) (.tmp 53) 70 rfl wA.heap.size 77 i0 (.agg zSN) 544 Tryd.underlying70 hi0 hz0 hz1 hz2 rfl _ acc rfl own 77 x (snC x) rfl rfl snC_one (by unfold maxLen; omega) (by omega) (Nat.le_refl _) bel ?_; intro v9 w9 own9 hb9 hq9; clear hq9))
              have bel9 := chain BW.out hb9
              have own9 := own_base own9 BW.out.size
              rw [← HOUT2.out] at own9
              have CK0 := refCheck14_any v9 OUT w9 (HTAB.out.below bel9) (own_rdk snC_len own9) (by rw [HKO.out]; exact RdSn.keep (HRS.out.below bel9 (Nat.le_refl _)) (HXR.out.below bel9 (Nat.le_refl _))) (by rw [HKO.out]; exact keep_all HSZ.out HXZ.out) (by rw [HKO.out]; exact keep_all HLN.out HXL.out)
              rw [← HN.out, ← HM.out] at CK0
              have CK := Lib.hid CK0
              obtain ⟨a9, n9, c9, rfl⟩ := own_slice own9
              obtain rfl := own_count own9
              have OWN9 := Lib.hid own9
              clear CK0 own9 own bel hb9
              go_wp2_with fail
              refine CK.out.mono ?_
              rintro e wz ⟨rfl, g⟩
              have OWNZ := Lib.hid (own_keep OWN9.out g)
              have bel9 := chain bel9 g
              clear g OWN9
              go_wp2_with fail
              show Z (.returned _) _
              rw [HZ.out]
              exact ⟨fun _ => ⟨_, by first | rfl | (rw [HN0.out]; rfl), by rw [← HKO.out]; exact OWNZ.out⟩, fun h => absurd (by rw [HKE.out, HN0.out]) h, bel9⟩
            · have en : ((N : Int) != 0) = true := by simp; omega
              have HN0 := Lib.hid hn
              clear hn
              go_wp2_with (first | ((with_reducible refine wpList_load_row (o := ⟨some 51, _, _, _, _, _⟩) rfl 28 (.tmp 5) rfl _ rfl _ cs (0, 0) _ q5 Tryd.underlying28 rfl hiS ?_)) | ((with_reducible refine wpList_build2 (o := ⟨some 52, _, _, _, _, _⟩) rfl 77 (.tmp 50) (.tmp 51) rfl (.int .i64 q) (.agg cs) (.agg (snV x)) rfl rfl (HBd.out _) ?_)) | ((with_reducible refine wpList_build1 (o := ⟨some 53, _, _, _, _, _⟩) rfl 70 (.tmp 52) rfl (snV x) rfl _ _ (HBs.out x wr) ?_)) | (at_builtin; refine wpList_app1k snC_len (by decide) wA rfl (.tmp 49) (.tmp 53) 70 rfl wA.heap.size 77 i0 (.agg zSN) 544 Tryd.underlying70 hi0 hz0 hz1 hz2 rfl _ acc rfl own 77 x (snC x) rfl rfl snC_one (by unfold maxLen; omega) (by omega) (Nat.le_refl _) bel ?_; intro v9 w9 own9 hb9 hq9; clear hq9))
              have bel9 := chain BW.out hb9
              have own9 := own_base own9 BW.out.size
              rw [← HOUT2.out] at own9
              have CK0 := refCheck14_any v9 OUT w9 (HTAB.out.below bel9) (own_rdk snC_len own9) (by rw [HKO.out]; exact RdSn.keep (HRS.out.below bel9 (Nat.le_refl _)) (HXR.out.below bel9 (Nat.le_refl _))) (by rw [HKO.out]; exact keep_all HSZ.out HXZ.out) (by rw [HKO.out]; exact keep_all HLN.out HXL.out)
              rw [← HN.out, ← HM.out] at CK0
              have CK := Lib.hid CK0
              obtain ⟨a9, n9, c9, rfl⟩ := own_slice own9
              obtain rfl := own_count own9
              have OWN9 := Lib.hid own9
              clear CK0 own9 own bel hb9
              go_wp2_with fail
              refine CK.out.mono ?_
              rintro e wz ⟨rfl, g⟩
              have OWNZ := Lib.hid (own_keep OWN9.out g)
              have bel9 := chain bel9 g
              clear g OWN9
              go_wp2_with fail
              show Z (.returned _) _
              rw [HZ.out]
              exact ⟨fun h => absurd (HKE.out.symm.trans h) HN0.out, fun _ => by rw [HKE.out]; rfl, bel9⟩
end Go.Proofs.YtbdfcgffkonbiaaDoor
