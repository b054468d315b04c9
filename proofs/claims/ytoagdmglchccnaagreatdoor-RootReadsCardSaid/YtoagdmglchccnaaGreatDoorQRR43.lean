/- The document's number. Written by wip/tools/gen12u.py. -/
import Derived.Test.YtoagdmglchccnaaGreatDoorQRR42
import Derived.Test.YtoagdmglchccnaaGreatDoorQRR37
import Derived.Test.YtoagdmglchccnaaGreatDoorQRR10
namespace Go.Proofs.YtoagdmglchccnaaGreatDoor
open Go Go.RowKit
set_option linter.unusedVariables false
set_option linter.unusedSimpArgs false
set_option maxRecDepth 100000 in
set_option maxHeartbeats 4000000 in
theorem number12_any (s : T2.Txt) (hs : s.length ≤ maxLen) (w : World) : Calls Tryz.prog 95 #[.string (str s)] w fun e w' => NumP s e ∧ Below w.heap.size w w' := by
  obtain ⟨Z, hZ⟩ : ∃ Z : Ending → World → Prop, Z = fun e w' => NumP s e ∧ Below w.heap.size w w' := ⟨_, rfl⟩
  rw [← hZ]
  have HZ := Lib.hid hZ
  have hsz := str_size s
  clear hZ
  unfold maxLen at hs
  have hs63 : (s.length : Int) ≤ 9223372036854775807 := by omega
  go_enter Tryz.func95, Tryz.ntmps95
  by_cases h0 : s.length < 1
  · have h0i : (s.length : Int) < 1 := by omega
    go_wp2_with fail
    show Z _ _
    rw [HZ.out]
    exact ⟨.inr ⟨fun n hf e => by
      by_cases hn : n < 0
      · have := (dg_neg hn hf).1.len; rw [← e] at this; omega
      · have := (dg_pos (by omega) hf).1.len; rw [← e] at this; omega, _, rfl⟩, Below.refl _ _⟩
  have h0i : ¬ (s.length : Int) < 1 := by omega
  by_cases h20 : 20 < s.length
  · have h20i : (20 : Int) < (s.length : Int) := by omega
    go_wp2_with fail
    show Z _ _
    rw [HZ.out]
    exact ⟨.inr ⟨fun n hf e => by
      by_cases hn : n < 0
      · have := (dg_neg hn hf).1.short; rw [← e] at this; omega
      · have := (dg_pos (by omega) hf).1.short; rw [← e] at this; omega, _, rfl⟩, Below.refl _ _⟩
  have h20i : ¬ (20 : Int) < (s.length : Int) := by omega
  have hlen0 : 0 < s.length := by omega
  have hbb : ∀ h : 0 < (str s).size, ((str s)[0]'h).toNat = (s.getD 0 0).toNat := fun h => by rw [str_byte]
  obtain ⟨c0, hc0⟩ : ∃ c, c = (s.getD 0 0).toNat := ⟨_, rfl⟩
  rw [← hc0] at hbb
  have HC0 := Lib.hid hc0
  clear hc0
  by_cases h45 : c0 = 45
  · subst h45
    have H45 := Lib.hid (show s.getD 0 0 = 45 from UInt8.toNat_inj.1 (by rw [← HC0.out]; rfl))
    have KD := Lib.hid (show ∀ n, T2.fitsI n → s = Lib.itoa n → Dg s 1 n.natAbs ∧ n < 0 from fun n hf e => by
      by_cases hn : n < 0
      · have := (dg_neg hn hf).1
        rw [← e] at this
        exact ⟨this, hn⟩
      · have := (dg_pos (by omega) hf).2
        rw [← e] at this
        exact absurd H45.out this)
    by_cases hl1 : s.length = 1
    · have hl1i : ((1 : Int) == (s.length : Int)) = true := by rw [beq_iff_eq]; omega
      have HL1 := Lib.hid hl1
      clear hl1
      go_wp2_with fail
      show Z _ _
      rw [HZ.out]
      exact ⟨.inr ⟨fun n hf e => by have := (KD.out n hf e).1.len; have := HL1.out; omega, _, rfl⟩, Below.refl _ _⟩
    have hl1i : ¬ (1 : Int) = (s.length : Int) := by omega
    go_wp2_with fail
    go_loopw [5, 6] (fun z i wr => ∃ (v : Int) (p : Nat), z = .int .i64 v ∧ i = .int .i64 (p : Int) ∧ 1 ≤ p ∧ p ≤ s.length ∧ -9223372036854775808 ≤ v ∧ v ≤ 0 ∧ Hid (∀ n, T2.fitsI n → s = Lib.itoa n → v = -((n.natAbs / 10 ^ (s.length - p) : Nat) : Int)) ∧ Hid (Below w.heap.size w wr)) (fun _ i _ => s.length + 1 - (intOf i).toNat)
    case atStart => exact ⟨0, 1, rfl, rfl, Nat.le_refl _, by omega, by omega, by omega, Lib.hid (fun n hf e => by rw [dg_start (KD.out n hf e).1]; rfl), Lib.hid (Below.refl _ _)⟩
    case round =>
      obtain ⟨v, p, rfl, rfl, hp, hpl, hv1, hv2, KEY, HG⟩ := hrel
      by_cases hlt : p < s.length
      · have hcc : ∀ h : p < (str s).size, ((str s)[p]'h).toNat = (s.getD p 0).toNat := fun h => by rw [str_byte]
        have ST := Lib.hid (fun n hf e => dg_step (KD.out n hf e).1 hp hlt)
        obtain ⟨c, hc⟩ : ∃ c, c = (s.getD p 0).toNat := ⟨_, rfl⟩
        rw [← hc] at hcc ST
        have hc256 : c < 256 := by rw [hc]; exact (s.getD p 0).toNat_lt
        have e0 : IntKind.i64.wrap ((c : Int) - 48) = (c : Int) - 48 := by rw [IntKind.wrap_i64]; omega
        clear hc
        by_cases hbad : (c : Int) - 48 < 0 ∨ 9 < (c : Int) - 48 ∨ v < -922337203685477580 ∨ v = -922337203685477580 ∧ 8 < (c : Int) - 48
        · have HN := Lib.hid (show ∀ n, T2.fitsI n → s ≠ Lib.itoa n from fun n hf e => by
            have h1 := KEY.out n hf e
            have h2 := ST.out n hf e
            omega)
          by_cases b1 : (c : Int) - 48 < 0
          · go_wp2_with fail
            show Z _ _
            rw [HZ.out]
            exact ⟨.inr ⟨HN.out, _, rfl⟩, HG.out⟩
          · by_cases b2 : 9 < (c : Int) - 48
            · go_wp2_with fail
              show Z _ _
              rw [HZ.out]
              exact ⟨.inr ⟨HN.out, _, rfl⟩, HG.out⟩
            · by_cases b3 : v < -922337203685477580
              · go_wp2_with fail
                show Z _ _
                rw [HZ.out]
                exact ⟨.inr ⟨HN.out, _, rfl⟩, HG.out⟩
              · have b4 : v = -922337203685477580 := by omega
                have b5 : 8 < (c : Int) - 48 := by omega
                subst b4
                go_wp2_with fail
                show Z _ _
                rw [HZ.out]
                exact ⟨.inr ⟨HN.out, _, rfl⟩, HG.out⟩
        · have b1 : ¬ (c : Int) - 48 < 0 := by omega
          have b2 : ¬ 9 < (c : Int) - 48 := by omega
          have b3 : ¬ v < -922337203685477580 := by omega
          have e1 : IntKind.i64.wrap (10 * v) = 10 * v := by rw [IntKind.wrap_i64]; omega
          have e2 : IntKind.i64.wrap (10 * v - ((c : Int) - 48)) = 10 * v - ((c : Int) - 48) := by rw [IntKind.wrap_i64]; omega
          have KEY2 := Lib.hid (show ∀ n, T2.fitsI n → s = Lib.itoa n → 10 * v - ((c : Int) - 48) = -((n.natAbs / 10 ^ (s.length - (p + 1)) : Nat) : Int) from fun n hf e => by
            have h1 := KEY.out n hf e
            have h2 := ST.out n hf e
            rw [h2.2.2.1]
            omega)
          have hlo : -9223372036854775808 ≤ 10 * v - ((c : Int) - 48) := by omega
          have hhi : 10 * v - ((c : Int) - 48) ≤ 0 := by omega
          by_cases b4 : v = -922337203685477580
          · have b5 : ¬ 8 < (c : Int) - 48 := by omega
            go_wp2_with fail
            exact ⟨⟨_, p + 1, rfl, by push_cast; rfl, by omega, by omega, by omega, by omega, Lib.hid (fun n hf e => by have h := KEY2.out n hf e; rw [b4, show (10 : Int) * -922337203685477580 = -9223372036854775800 from by decide] at h; exact h), HG⟩, by simp [intOf]; omega⟩
          · go_wp2_with fail
            exact ⟨⟨_, p + 1, rfl, by push_cast; rfl, by omega, by omega, hlo, hhi, KEY2, HG⟩, by simp [intOf]; omega⟩
      · obtain rfl : p = s.length := by omega
        have RV := own_rdv (own_one (heap_alloc_new wr (.cells #[.int .i64 (v)] 3)) (base := 0) (Nat.zero_le _))
        have DG := Lib.hid (T2.refDigits_any (.slice (some ⟨wr.heap.size, 0, none⟩) 1 1) [v] (by simp) (fun y hy => by rw [List.mem_singleton.1 hy]; unfold T2.fitsI; omega) (wr.alloc (.cells #[.int .i64 (v)] 3)) RV)
        have hcat : str s ++ (ByteArray.mk #[44]) = str (s ++ [44]) := by rw [show (ByteArray.mk #[44]) = str [44] from rfl, str_append]
        have hdx : T2.digN [v] = Lib.itoa (v) ++ [44] := by simp [T2.digN]
        rw [hdx] at DG
        have GF := Lib.hid (HG.out.alloc HG.out.size (.cells #[.int .i64 (v)] 3))
        by_cases hi : Lib.itoa (v) = s
        · have q2 : ((str (Lib.itoa (v) ++ [44])).toList == (str (s ++ [44])).toList) = true := by rw [str_tl, str_tl, hi]; simp
          have HI := Lib.hid (show s = Lib.itoa (v) from hi.symm)
          rw [hi] at DG q2
          clear RV hdx hi
          go_wp2_with fail
          refine DG.out.mono ?_
          rintro e w7 ⟨rfl, rfl⟩
          go_wp2_with fail
          show Z _ _
          rw [HZ.out]
          exact ⟨.inl ⟨_, by unfold T2.fitsI; omega, HI.out, rfl⟩, GF.out⟩
        · have q2 : ((str (Lib.itoa (v) ++ [44])).toList == (str (s ++ [44])).toList) = false := by rw [str_tl, str_tl]; simpa using hi
          have HN := Lib.hid (show ∀ n, T2.fitsI n → s ≠ Lib.itoa n from fun n hf e => hi (by
            have h1 := KEY.out n hf e
            have h2 := (KD.out n hf e).2
            rw [Nat.sub_self, Nat.pow_zero, Nat.div_one] at h1
            rw [e]; congr 1; omega))
          clear RV hdx hi
          go_wp2_with fail
          refine DG.out.mono ?_
          rintro e w7 ⟨rfl, rfl⟩
          go_wp2_with fail
          show Z _ _
          rw [HZ.out]
          exact ⟨.inr ⟨HN.out, _, rfl⟩, GF.out⟩
  · have h45i : ¬ (c0 : Int) = 45 := by omega
    have H45 := Lib.hid (show s.getD 0 0 ≠ 45 from fun e => h45 (by rw [HC0.out, e]; rfl))
    have hl0i : ¬ (0 : Int) = (s.length : Int) := by omega
    have KD := Lib.hid (show ∀ n, T2.fitsI n → s = Lib.itoa n → Dg s 0 n.natAbs ∧ 0 ≤ n from fun n hf e => by
      by_cases hn : n < 0
      · have := (dg_neg hn hf).2
        rw [← e] at this
        exact absurd this H45.out
      · have := (dg_pos (by omega) hf).1
        rw [← e] at this
        exact ⟨this, by omega⟩)
    go_wp2_with fail
    go_loopw [5, 6] (fun z i wr => ∃ (v : Int) (p : Nat), z = .int .i64 v ∧ i = .int .i64 (p : Int) ∧ 0 ≤ p ∧ p ≤ s.length ∧ -9223372036854775808 ≤ v ∧ v ≤ 0 ∧ Hid (∀ n, T2.fitsI n → s = Lib.itoa n → v = -((n.natAbs / 10 ^ (s.length - p) : Nat) : Int)) ∧ Hid (Below w.heap.size w wr)) (fun _ i _ => s.length + 1 - (intOf i).toNat)
    case atStart => exact ⟨0, 0, rfl, rfl, Nat.le_refl _, by omega, by omega, by omega, Lib.hid (fun n hf e => by rw [dg_start (KD.out n hf e).1]; rfl), Lib.hid (Below.refl _ _)⟩
    case round =>
      obtain ⟨v, p, rfl, rfl, hp, hpl, hv1, hv2, KEY, HG⟩ := hrel
      by_cases hlt : p < s.length
      · have hcc : ∀ h : p < (str s).size, ((str s)[p]'h).toNat = (s.getD p 0).toNat := fun h => by rw [str_byte]
        have ST := Lib.hid (fun n hf e => dg_step (KD.out n hf e).1 hp hlt)
        obtain ⟨c, hc⟩ : ∃ c, c = (s.getD p 0).toNat := ⟨_, rfl⟩
        rw [← hc] at hcc ST
        have hc256 : c < 256 := by rw [hc]; exact (s.getD p 0).toNat_lt
        have e0 : IntKind.i64.wrap ((c : Int) - 48) = (c : Int) - 48 := by rw [IntKind.wrap_i64]; omega
        clear hc
        by_cases hbad : (c : Int) - 48 < 0 ∨ 9 < (c : Int) - 48 ∨ v < -922337203685477580 ∨ v = -922337203685477580 ∧ 8 < (c : Int) - 48
        · have HN := Lib.hid (show ∀ n, T2.fitsI n → s ≠ Lib.itoa n from fun n hf e => by
            have h1 := KEY.out n hf e
            have h2 := ST.out n hf e
            omega)
          by_cases b1 : (c : Int) - 48 < 0
          · go_wp2_with fail
            show Z _ _
            rw [HZ.out]
            exact ⟨.inr ⟨HN.out, _, rfl⟩, HG.out⟩
          · by_cases b2 : 9 < (c : Int) - 48
            · go_wp2_with fail
              show Z _ _
              rw [HZ.out]
              exact ⟨.inr ⟨HN.out, _, rfl⟩, HG.out⟩
            · by_cases b3 : v < -922337203685477580
              · go_wp2_with fail
                show Z _ _
                rw [HZ.out]
                exact ⟨.inr ⟨HN.out, _, rfl⟩, HG.out⟩
              · have b4 : v = -922337203685477580 := by omega
                have b5 : 8 < (c : Int) - 48 := by omega
                subst b4
                go_wp2_with fail
                show Z _ _
                rw [HZ.out]
                exact ⟨.inr ⟨HN.out, _, rfl⟩, HG.out⟩
        · have b1 : ¬ (c : Int) - 48 < 0 := by omega
          have b2 : ¬ 9 < (c : Int) - 48 := by omega
          have b3 : ¬ v < -922337203685477580 := by omega
          have e1 : IntKind.i64.wrap (10 * v) = 10 * v := by rw [IntKind.wrap_i64]; omega
          have e2 : IntKind.i64.wrap (10 * v - ((c : Int) - 48)) = 10 * v - ((c : Int) - 48) := by rw [IntKind.wrap_i64]; omega
          have KEY2 := Lib.hid (show ∀ n, T2.fitsI n → s = Lib.itoa n → 10 * v - ((c : Int) - 48) = -((n.natAbs / 10 ^ (s.length - (p + 1)) : Nat) : Int) from fun n hf e => by
            have h1 := KEY.out n hf e
            have h2 := ST.out n hf e
            rw [h2.2.2.1]
            omega)
          have hlo : -9223372036854775808 ≤ 10 * v - ((c : Int) - 48) := by omega
          have hhi : 10 * v - ((c : Int) - 48) ≤ 0 := by omega
          by_cases b4 : v = -922337203685477580
          · have b5 : ¬ 8 < (c : Int) - 48 := by omega
            go_wp2_with fail
            exact ⟨⟨_, p + 1, rfl, by push_cast; rfl, by omega, by omega, by omega, by omega, Lib.hid (fun n hf e => by have h := KEY2.out n hf e; rw [b4, show (10 : Int) * -922337203685477580 = -9223372036854775800 from by decide] at h; exact h), HG⟩, by simp [intOf]; omega⟩
          · go_wp2_with fail
            exact ⟨⟨_, p + 1, rfl, by push_cast; rfl, by omega, by omega, hlo, hhi, KEY2, HG⟩, by simp [intOf]; omega⟩
      · obtain rfl : p = s.length := by omega
        by_cases hv9 : v = -9223372036854775808
        · have HN := Lib.hid (show ∀ n, T2.fitsI n → s ≠ Lib.itoa n from fun n hf e => by
            have h1 := KEY.out n hf e
            have h2 := (KD.out n hf e).2
            rw [Nat.sub_self, Nat.pow_zero, Nat.div_one] at h1
            unfold T2.fitsI at hf
            omega)
          go_wp2_with fail
          show Z _ _
          rw [HZ.out]
          exact ⟨.inr ⟨HN.out, _, rfl⟩, HG.out⟩
        · have e9 : IntKind.i64.wrap (-v) = -v := by rw [IntKind.wrap_i64]; omega
          have RV := own_rdv (own_one (heap_alloc_new wr (.cells #[.int .i64 (-v)] 3)) (base := 0) (Nat.zero_le _))
          have DG := Lib.hid (T2.refDigits_any (.slice (some ⟨wr.heap.size, 0, none⟩) 1 1) [-v] (by simp) (fun y hy => by rw [List.mem_singleton.1 hy]; unfold T2.fitsI; omega) (wr.alloc (.cells #[.int .i64 (-v)] 3)) RV)
          have hcat : str s ++ (ByteArray.mk #[44]) = str (s ++ [44]) := by rw [show (ByteArray.mk #[44]) = str [44] from rfl, str_append]
          have hdx : T2.digN [-v] = Lib.itoa (-v) ++ [44] := by simp [T2.digN]
          rw [hdx] at DG
          have GF := Lib.hid (HG.out.alloc HG.out.size (.cells #[.int .i64 (-v)] 3))
          by_cases hi : Lib.itoa (-v) = s
          · have q2 : ((str (Lib.itoa (-v) ++ [44])).toList == (str (s ++ [44])).toList) = true := by rw [str_tl, str_tl, hi]; simp
            have HI := Lib.hid (show s = Lib.itoa (-v) from hi.symm)
            rw [hi] at DG q2
            clear RV hdx hi
            go_wp2_with fail
            refine DG.out.mono ?_
            rintro e w7 ⟨rfl, rfl⟩
            go_wp2_with fail
            show Z _ _
            rw [HZ.out]
            exact ⟨.inl ⟨_, by unfold T2.fitsI; omega, HI.out, rfl⟩, GF.out⟩
          · have q2 : ((str (Lib.itoa (-v) ++ [44])).toList == (str (s ++ [44])).toList) = false := by rw [str_tl, str_tl]; simpa using hi
            have HN := Lib.hid (show ∀ n, T2.fitsI n → s ≠ Lib.itoa n from fun n hf e => hi (by
              have h1 := KEY.out n hf e
              have h2 := (KD.out n hf e).2
              rw [Nat.sub_self, Nat.pow_zero, Nat.div_one] at h1
              rw [e]; congr 1; omega))
            clear RV hdx hi
            go_wp2_with fail
            refine DG.out.mono ?_
            rintro e w7 ⟨rfl, rfl⟩
            go_wp2_with fail
            show Z _ _
            rw [HZ.out]
            exact ⟨.inr ⟨HN.out, _, rfl⟩, GF.out⟩
end Go.Proofs.YtoagdmglchccnaaGreatDoor
