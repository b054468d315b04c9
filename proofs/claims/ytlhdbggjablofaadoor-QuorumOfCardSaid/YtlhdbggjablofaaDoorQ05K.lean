/- Quorums: the laws QuorumSets and QuorumOf. -/
import Derived.Test.YtlhdbggjablofaaDoorQ05J
import Derived.Deep.QuietTactic
import Derived.BigQuiet
namespace Go.Proofs.YtlhdbggjablofaaDoor
open Go.RowKit
set_option linter.unusedVariables false
set_option linter.unusedSimpArgs false
theorem has_eq (s : Nat) (n : Int) : (((s &&& bitZ n : Nat) : Int) != 0) = hasZ s n := by
  by_cases h : 0 ≤ n ∧ n < 64
  · obtain ⟨m, rfl⟩ := Int.eq_ofNat_of_zero_le h.1
    rw [hasZ_in s m (by omega), bit_div]
    unfold bitZ
    rw [if_pos h, Int.toNat_natCast, nat_bit]
    have hp := Nat.two_pow_pos m
    have : s / 2 ^ m % 2 = 0 ∨ s / 2 ^ m % 2 = 1 := by omega
    rcases this with e | e
    · rw [e]; simp
    · rw [e, Nat.one_mul]
      have h2 : ((2 ^ m : Nat) : Int) ≠ 0 := by omega
      generalize ((2 ^ m : Nat) : Int) = z at h2
      simpa using h2
  · rw [hasZ_out s n (by omega)]
    unfold bitZ
    rw [if_neg h]; simp
theorem bits_eq (a b : Nat) (ha : a < 18446744073709551616) (hb : b < 18446744073709551616) (h : ∀ i, i < 64 → a.testBit i = b.testBit i) : a = b := by
  apply Nat.eq_of_testBit_eq
  intro i
  by_cases hi : i < 64
  · exact h i hi
  · have e : 2 ^ 64 ≤ 2 ^ i := Nat.pow_le_pow_right (by decide) (by omega)
    rw [Nat.testBit_lt_two_pow (Nat.lt_of_lt_of_le (by simpa using ha) e), Nat.testBit_lt_two_pow (Nat.lt_of_lt_of_le (by simpa using hb) e)]
theorem of_list (s : Nat) (hs : s < 18446744073709551616) : ofZ ((listN s).map Int.ofNat) 0 = s := by
  apply bits_eq _ _ (ofZ_lt _ _ (by decide)) hs
  intro i hi
  rw [ofZ_bit _ _ _ hi, Nat.zero_testBit, Bool.false_or, Bool.eq_iff_iff, decide_eq_true_eq, List.mem_map]
  constructor
  · rintro ⟨a, h1, h2⟩
    obtain rfl : a = i := by have : (a : Int) = (i : Int) := h2; omega
    exact ((mem_list s a).1 h1).2
  · intro h
    exact ⟨i, (mem_list s i).2 ⟨hi, h⟩, rfl⟩
theorem iz_list (s : Nat) : ((listN s).map Int.ofNat).map iz = (listN s).map iv := by
  rw [List.map_map]; rfl
theorem has_with (s : Nat) (n : Int) (k : Nat) (hk : k < 64) : hasZ (s ||| bitZ n) (k : Int) = (hasZ s (k : Int) || decide (n = (k : Int))) := by
  rw [hasZ_in _ k hk, hasZ_in s k hk, Nat.testBit_or, bitZ_bit n k hk]
theorem has_without (s : Nat) (n : Int) (k : Nat) (hk : k < 64) : hasZ (s &&& (18446744073709551615 - bitZ n)) (k : Int) = (hasZ s (k : Int) && !decide (n = (k : Int))) := by
  rw [hasZ_in _ k hk, hasZ_in s k hk, Nat.testBit_and]
  congr 1
  have h := bitZ_lt n
  have e : 18446744073709551615 - bitZ n = 2 ^ 64 - (bitZ n + 1) := by simp
  rw [e, Nat.testBit_two_pow_sub_succ (by simpa using h), bitZ_bit n k hk]
  simp [hk]
theorem has_all (n : Int) (k : Nat) (hk : k < 64) : hasZ (allZ n) (k : Int) = decide ((k : Int) < n) := by
  rw [hasZ_in _ k hk]
  unfold allZ
  split
  · simp; omega
  · split
    · rw [show 18446744073709551615 = 2 ^ 64 - 1 from by decide, Nat.testBit_two_pow_sub_one]
      simp [hk]; omega
    · rw [Nat.testBit_two_pow_sub_one, Bool.eq_iff_iff]
      simp
set_option maxRecDepth 100000 in
set_option maxHeartbeats 2000000 in
theorem sets_any (s : Nat) (n : Int) (w : World) (hs : s < 18446744073709551616) (wn : (Lit.int .i64 n).wf = true) (hT : TabAt w) :
    Calls Tryd.prog 4 #[.int .u64 (s : Int), .int .i64 n] w fun e w' => e = .returned (.bool true) ∧ Below w.heap.size w w' := by
  have L1 := list_any s hs w hT
  have L2 := fun w => refList_any s hs w
  have C := count_any s hs
  have H1 := has_any s hs n
  rw [has_eq] at H1
  have H2 := refHas_any s hs
  have W1 := with_any s hs n
  have W2 := without_any s hs n
  have A1 := all_any n
  have hp : s ||| bitZ n < 18446744073709551616 := or_lt hs (bitZ_lt n)
  have hq : s &&& (18446744073709551615 - bitZ n) < 18446744073709551616 := Nat.lt_of_le_of_lt Nat.and_le_left hs
  have GP := refHas_any _ hp
  have GQ := refHas_any _ hq
  have GA := refHas_any _ (allZ_lt n)
  have E1 := fun k hk => has_with s n k hk
  have E2 := fun k hk => has_without s n k hk
  have E3 := fun k hk => has_all n k hk
  have hof := of_list s hs
  generalize s ||| bitZ n = p at W1 GP E1
  generalize s &&& (18446744073709551615 - bitZ n) = q at W2 GQ E2
  generalize allZ n = a at A1 GA E3
  rw [← list_len] at C
  obtain ⟨m, em⟩ : ∃ m, m = (listN s).length := ⟨_, rfl⟩
  rw [← em] at C L1
  have L2' : ∀ w, Calls Tryd.prog 14 #[.int .u64 (s : Int)] w fun e w' => ∃ v, e = .returned v ∧ w'.ownsRow w.heap.size 3 1 v m ((listN s).map iv) ∧ Below w.heap.size w w' := by rw [em]; exact L2
  have HE1 := Lib.hid E1
  have HE2 := Lib.hid E2
  have HE3 := Lib.hid E3
  have HOF := Lib.hid hof
  have HL2 := Lib.hid L2'
  have HP := Lib.hid GP
  have HQ := Lib.hid GQ
  have HA := Lib.hid GA
  have HH := Lib.hid H2
  have EM := Lib.hid em
  have HL1 := Lib.hid L1
  have hm64 : m ≤ 64 := by rw [em, list_len]; exact pop_le 64 s
  clear E1 E2 E3 GP GQ GA hof L2 L2' hp hq wn em hs L1
  have hb : ∃ b, b = hasZ s n := ⟨_, rfl⟩
  obtain ⟨b, eb⟩ := hb
  rw [← eb] at H1
  have H2 := HH.out n
  rw [← eb] at H2
  clear eb
  go_enter Tryd.func4, Tryd.ntmps4
  go_wp2_with fail
  refine HL1.out.mono ?_
  rintro e w1 ⟨v1, rfl, o1, b1⟩
  clear HL1
  go_wp2_with fail
  refine (HL2.out _).mono ?_
  rintro e w2 ⟨v2, rfl, o2, b2⟩
  clear HL2
  have r1 := (own_rdv o1).below b2 (Nat.le_refl _)
  have r2 := own_rdv o2
  have bel : Below w.heap.size w w2 := chain b1 b2
  have t2 : TabAt w2 := hT.below bel hT.1
  clear o1 o2 b1 b2 hT
  obtain ⟨ao1, cap1, e1, hc1, hm1, -, hx1⟩ := id r1
  obtain ⟨ao2, cap2, e2, hc2, hm2, -, hx2⟩ := id r2
  rw [List.length_map, ← EM.out] at e1 e2 hc1 hc2 hx1 hx2
  subst e1 e2
  have R1 := Lib.hid r1
  have HX1 := Lib.hid hx1
  have HX2 := Lib.hid hx2
  clear r1 r2 hx1 hx2
  unfold maxLen at hm1 hm2
  go_wp2_with fail
  refine (C _).mono ?_
  rintro e w3 ⟨rfl, rfl⟩
  go_wp2_with fail
  refine (H1 _).mono ?_
  rintro e w3 ⟨rfl, rfl⟩
  go_wp2_with fail
  refine (H2 _).mono ?_
  rintro e w3 ⟨rfl, rfl⟩
  go_wp2_with fail
  refine (W1 _).mono ?_
  rintro e w3 ⟨rfl, rfl⟩
  go_wp2_with fail
  refine (W2 _).mono ?_
  rintro e w3 ⟨rfl, rfl⟩
  clear W1 W2 H1 H2 C
  go_wp2_with fail
  go_loopw [9] (fun i wr => ∃ k : Nat, k ≤ m ∧ i = .int .i64 (k : Int) ∧ Below w2.heap.size w2 wr) (fun i _ => m - (intOf i).toNat)
  case atStart => exact ⟨0, Nat.zero_le _, rfl, Below.refl _ _⟩
  case round =>
    obtain ⟨k, hk, rfl, hB⟩ := hrel
    by_cases hlt : k < m
    · obtain ⟨c1, f1, rfl, hl1, hcell1⟩ := HX1.out (by omega)
      obtain ⟨c2, f2, rfl, hl2, hcell2⟩ := HX2.out (by omega)
      obtain ⟨x, hx⟩ : ∃ x : Nat, ((listN s).map iv)[k]? = some (.int .i64 (x : Int)) := ⟨(listN s)[k]'(by rw [← EM.out]; exact hlt), by rw [List.getElem?_map]; simp [iv, EM.out ▸ hlt]⟩
      have d1 := (hB.cell (p := ⟨c1, f1 + k, none⟩) hl1).trans ((hcell1 k hlt).trans hx)
      have d2 := (hB.cell (p := ⟨c2, f2 + k, none⟩) hl2).trans ((hcell2 k hlt).trans hx)
      have q1 : (0 : Int) ≤ (k : Int) := by omega
      have q2 : (k : Int) < (m : Int) := by omega
      clear hcell1 hcell2 hx
      go_wp2_with fail
      go_quiet (fail)
      go_wp2_with fail
      exact ⟨⟨k + 1, by omega, by push_cast; rfl, below_drewN hB⟩, by simp [intOf]; omega⟩
    · obtain rfl : k = m := by omega
      have R1' := (R1.out.below hB (Nat.le_refl _))
      have t3 := t2.below hB (by have := t2.1; omega)
      have bel3 := chain bel hB
      have HR1 := Lib.hid R1'
      have AW := Lib.hid (awake_any wr t3)
      clear R1' R1 HX1 HX2 hB bel t2 t3 hk hlt
      go_wp2_with fail
      go_loop [10] (fun i => ∃ j : Nat, j ≤ 64 ∧ i = .int .i64 (j : Int)) (fun i => 64 - (intOf i).toNat)
      case atStart => exact ⟨0, by omega, rfl⟩
      case round =>
        obtain ⟨j, hj, rfl⟩ := hrel
        by_cases hlt : j < 64
        · have SK := HH.out (j : Int)
          have PK := HP.out (j : Int)
          have QK := HQ.out (j : Int)
          have AK := HA.out (j : Int)
          rw [HE1.out j hlt] at PK
          rw [HE2.out j hlt] at QK
          rw [HE3.out j hlt] at AK
          rcases (show (j : Int) = n ∨ (j : Int) < n ∨ n < (j : Int) by omega) with h | h | h
          · subst h
            have z1 : decide ((j : Int) < (j : Int)) = false := by simp
            rw [z1] at AK
            simp only [decide_true, Bool.or_true, Bool.not_true, Bool.and_false] at PK QK
            generalize hasZ s (j : Int) = sk at SK PK QK
            cases sk
            all_goals
              go_wp2_with fail
              refine (PK _).mono ?_
              rintro e w3 ⟨rfl, rfl⟩
              go_wp2_with fail
              refine (SK _).mono ?_
              rintro e w3 ⟨rfl, rfl⟩
              go_wp2_with fail
              refine (QK _).mono ?_
              rintro e w3 ⟨rfl, rfl⟩
              go_wp2_with fail
              refine (SK _).mono ?_
              rintro e w3 ⟨rfl, rfl⟩
              go_wp2_with fail
              refine (A1 _).mono ?_
              rintro e w3 ⟨rfl, rfl⟩
              go_wp2_with fail
              refine (AK _).mono ?_
              rintro e w3 ⟨rfl, rfl⟩
              go_wp2_with fail
              exact ⟨⟨j + 1, by omega, by push_cast; rfl⟩, by simp [intOf]; omega⟩
          · have z1 : decide ((j : Int) < n) = true := by simpa using h
            have z2 : decide (n = (j : Int)) = false := by simp; omega
            have z3 : ((j : Int) == n) = false := by simp; omega
            have z4 : ((j : Int) != n) = true := by simp; omega
            rw [z1] at AK
            rw [z2] at PK QK
            simp only [Bool.or_false, Bool.not_false, Bool.and_true] at PK QK
            clear z2
            generalize hasZ s (j : Int) = sk at SK PK QK
            cases sk
            all_goals
              go_wp2_with fail
              refine (PK _).mono ?_
              rintro e w3 ⟨rfl, rfl⟩
              go_wp2_with fail
              refine (SK _).mono ?_
              rintro e w3 ⟨rfl, rfl⟩
              go_wp2_with fail
              refine (QK _).mono ?_
              rintro e w3 ⟨rfl, rfl⟩
              go_wp2_with fail
              refine (SK _).mono ?_
              rintro e w3 ⟨rfl, rfl⟩
              go_wp2_with fail
              refine (A1 _).mono ?_
              rintro e w3 ⟨rfl, rfl⟩
              go_wp2_with fail
              refine (AK _).mono ?_
              rintro e w3 ⟨rfl, rfl⟩
              go_wp2_with fail
              exact ⟨⟨j + 1, by omega, by push_cast; rfl⟩, by simp [intOf]; omega⟩
          · have z1 : decide ((j : Int) < n) = false := by simp; omega
            have z2 : decide (n = (j : Int)) = false := by simp; omega
            have z3 : ((j : Int) == n) = false := by simp; omega
            have z4 : ((j : Int) != n) = true := by simp; omega
            rw [z1] at AK
            rw [z2] at PK QK
            simp only [Bool.or_false, Bool.not_false, Bool.and_true] at PK QK
            clear z2
            generalize hasZ s (j : Int) = sk at SK PK QK
            cases sk
            all_goals
              go_wp2_with fail
              refine (PK _).mono ?_
              rintro e w3 ⟨rfl, rfl⟩
              go_wp2_with fail
              refine (SK _).mono ?_
              rintro e w3 ⟨rfl, rfl⟩
              go_wp2_with fail
              refine (QK _).mono ?_
              rintro e w3 ⟨rfl, rfl⟩
              go_wp2_with fail
              refine (SK _).mono ?_
              rintro e w3 ⟨rfl, rfl⟩
              go_wp2_with fail
              refine (A1 _).mono ?_
              rintro e w3 ⟨rfl, rfl⟩
              go_wp2_with fail
              refine (AK _).mono ?_
              rintro e w3 ⟨rfl, rfl⟩
              go_wp2_with fail
              exact ⟨⟨j + 1, by omega, by push_cast; rfl⟩, by simp [intOf]; omega⟩
        · obtain rfl : j = 64 := by omega
          have OF := of_any _ _ wr (by rw [iz_list]; exact HR1.out)
          rw [HOF.out] at OF
          clear HP HQ HA HH HE1 HE2 HE3 A1
          go_wp2_with fail
          refine OF.mono ?_
          rintro e w3 ⟨rfl, rfl⟩
          go_wp2_with fail
          refine AW.out.mono ?_
          rintro e w4 ⟨rfl, b4⟩
          go_wp2_with fail
          go_ret
          exact ⟨rfl, chain bel3 b4⟩
end Go.Proofs.YtlhdbggjablofaaDoor
