/- Quorums: the law QuorumMeets. Written by wip/tools/gen5r.py. -/
import Derived.Test.YtlhdbggjablofaaDoorQ05P
import Derived.Lib.SmallJoins
import Derived.Deep.QuietTactic
import Derived.BigQuiet
import Derived.ProofKit
import Derived.OpenShut
namespace Go.Proofs.YtlhdbggjablofaaDoor
open Go.ChangeShapes Go.WideShapes Go.ChangeAt Go.RowKit Go.Joins
set_option linter.unusedVariables false
set_option linter.unusedSimpArgs false
def PureInt (f : Nat) (args : Array Value) (v : Value) : Prop := ∀ w, Calls Tryd.prog f args w fun e w' => e = .returned v ∧ w = w'
theorem PureInt.at {f : Nat} {args : Array Value} {v : Value} (h : PureInt f args v) (w : World) : Calls Tryd.prog f args w fun e w' => e = .returned v ∧ w = w' := h w
set_option maxRecDepth 100000 in
set_option maxHeartbeats 2000000 in
theorem meets_walk (a b d ab ad z az azd : Nat) (n k : Int) (sa wa sb wb wab wad : Bool) (cb c : Nat) (w : World) (hT : TabAt w) (hk : 1 ≤ k ∧ k ≤ 5)
    (E1 : bits .and .u64 (a : Int) (b : Int) = (ab : Nat)) (E2 : bits .andNot .u64 (a : Int) (d : Int) = (ad : Nat)) (E3 : bits .and .u64 (a : Int) (z : Int) = (az : Nat)) (E4 : bits .andNot .u64 (az : Int) (d : Int) = (azd : Nat))
    (hF : PureInt 8 #[.int .i64 n] (.tuple #[.int .i64 k, .int .i64 0]))
    (hSA : PureInt 22 #[.int .u64 (a : Int), .int .i64 n] (.bool sa)) (hSB : PureInt 22 #[.int .u64 (b : Int), .int .i64 n] (.bool sb))
    (hWA : PureInt 23 #[.int .u64 (a : Int), .int .i64 n] (.bool wa)) (hWB : PureInt 23 #[.int .u64 (ab : Int), .int .i64 n] (.bool wab)) (hWD : PureInt 23 #[.int .u64 (ad : Int), .int .i64 n] (.bool wad))
    (hC : PureInt 15 #[.int .u64 (d : Int)] (.int .i64 (cb : Int))) (hC2 : PureInt 15 #[.int .u64 (azd : Int)] (.int .i64 (c : Int))) (hA : PureInt 20 #[.int .i64 n] (.int .u64 (z : Int)))
    (f1 : sa = true → wa = true) (f2 : sa = true → sb = true → wab = true) (f3 : sa = true → (cb : Int) ≤ k → wad = true) (f4 : wa = true → (cb : Int) ≤ k → 0 < c) :
    Calls Tryd.prog 6 #[.agg #[.int .u64 (a : Int), .int .u64 (b : Int), .int .u64 (d : Int), .int .i64 n]] w fun e w' => e = .returned (.bool true) ∧ Below w.heap.size w w' := by
  have AW := awake_any
  have HAW := Lib.hid AW
  clear AW
  cases sa with
  | true =>
    have e1 := f1 rfl
    subst e1
    clear f1
    by_cases hc : (cb : Int) ≤ k
    · have e3 := f3 rfl hc
      have e4 := f4 rfl hc
      subst e3
      have e5 : (0 : Int) < (c : Int) := by omega
      clear f3 f4
      cases sb with
      | true =>
        have e2 := f2 rfl rfl
        subst e2
        clear f2
        go_enter Tryd.func6, Tryd.ntmps6
        go_wp2_with fail
        go_quiet (fail)
        go_wp2_with (first | (go_at_call 8; first | ((with_reducible refine (PureInt.at hF _).mono ?_); rintro e w1 ⟨rfl, rfl⟩)) | (go_at_call 22; first | ((with_reducible refine (PureInt.at hSA _).mono ?_); rintro e w1 ⟨rfl, rfl⟩) | ((with_reducible refine (PureInt.at hSB _).mono ?_); rintro e w1 ⟨rfl, rfl⟩)) | (go_at_call 23; first | ((with_reducible refine (PureInt.at hWA _).mono ?_); rintro e w1 ⟨rfl, rfl⟩) | ((with_reducible refine (PureInt.at hWB _).mono ?_); rintro e w1 ⟨rfl, rfl⟩) | ((with_reducible refine (PureInt.at hWD _).mono ?_); rintro e w1 ⟨rfl, rfl⟩)) | (go_at_call 15; first | ((with_reducible refine (PureInt.at hC _).mono ?_); rintro e w1 ⟨rfl, rfl⟩) | ((with_reducible refine (PureInt.at hC2 _).mono ?_); rintro e w1 ⟨rfl, rfl⟩)) | (go_at_call 20; first | ((with_reducible refine (PureInt.at hA _).mono ?_); rintro e w1 ⟨rfl, rfl⟩)))
        refine (HAW.out _ ?_).mono ?_
        · exact hT.below (below_drewN ((Below.refl w.heap.size w).alloc (Nat.le_refl _) _)) hT.1
        rintro e w4 ⟨rfl, b4⟩
        have bel := chain (below_drewN ((Below.refl w.heap.size w).alloc (Nat.le_refl _) _)) b4
        go_wp2_with fail
        go_ret
        first | exact ⟨rfl, bel⟩ | exact ⟨by simp [e4], bel⟩
      | false =>
        clear f2
        go_enter Tryd.func6, Tryd.ntmps6
        go_wp2_with fail
        go_quiet (fail)
        go_wp2_with (first | (go_at_call 8; first | ((with_reducible refine (PureInt.at hF _).mono ?_); rintro e w1 ⟨rfl, rfl⟩)) | (go_at_call 22; first | ((with_reducible refine (PureInt.at hSA _).mono ?_); rintro e w1 ⟨rfl, rfl⟩) | ((with_reducible refine (PureInt.at hSB _).mono ?_); rintro e w1 ⟨rfl, rfl⟩)) | (go_at_call 23; first | ((with_reducible refine (PureInt.at hWA _).mono ?_); rintro e w1 ⟨rfl, rfl⟩) | ((with_reducible refine (PureInt.at hWB _).mono ?_); rintro e w1 ⟨rfl, rfl⟩) | ((with_reducible refine (PureInt.at hWD _).mono ?_); rintro e w1 ⟨rfl, rfl⟩)) | (go_at_call 15; first | ((with_reducible refine (PureInt.at hC _).mono ?_); rintro e w1 ⟨rfl, rfl⟩) | ((with_reducible refine (PureInt.at hC2 _).mono ?_); rintro e w1 ⟨rfl, rfl⟩)) | (go_at_call 20; first | ((with_reducible refine (PureInt.at hA _).mono ?_); rintro e w1 ⟨rfl, rfl⟩)))
        refine (HAW.out _ ?_).mono ?_
        · exact hT.below (below_drewN ((Below.refl w.heap.size w).alloc (Nat.le_refl _) _)) hT.1
        rintro e w4 ⟨rfl, b4⟩
        have bel := chain (below_drewN ((Below.refl w.heap.size w).alloc (Nat.le_refl _) _)) b4
        go_wp2_with fail
        go_ret
        first | exact ⟨rfl, bel⟩ | exact ⟨by simp [e4], bel⟩
    · clear f3 f4
      cases sb with
      | true =>
        have e2 := f2 rfl rfl
        subst e2
        clear f2
        go_enter Tryd.func6, Tryd.ntmps6
        go_wp2_with fail
        go_quiet (fail)
        go_wp2_with (first | (go_at_call 8; first | ((with_reducible refine (PureInt.at hF _).mono ?_); rintro e w1 ⟨rfl, rfl⟩)) | (go_at_call 22; first | ((with_reducible refine (PureInt.at hSA _).mono ?_); rintro e w1 ⟨rfl, rfl⟩) | ((with_reducible refine (PureInt.at hSB _).mono ?_); rintro e w1 ⟨rfl, rfl⟩)) | (go_at_call 23; first | ((with_reducible refine (PureInt.at hWA _).mono ?_); rintro e w1 ⟨rfl, rfl⟩) | ((with_reducible refine (PureInt.at hWB _).mono ?_); rintro e w1 ⟨rfl, rfl⟩) | ((with_reducible refine (PureInt.at hWD _).mono ?_); rintro e w1 ⟨rfl, rfl⟩)) | (go_at_call 15; first | ((with_reducible refine (PureInt.at hC _).mono ?_); rintro e w1 ⟨rfl, rfl⟩) | ((with_reducible refine (PureInt.at hC2 _).mono ?_); rintro e w1 ⟨rfl, rfl⟩)) | (go_at_call 20; first | ((with_reducible refine (PureInt.at hA _).mono ?_); rintro e w1 ⟨rfl, rfl⟩)))
        refine (HAW.out _ ?_).mono ?_
        · exact hT.below (below_drewN ((Below.refl w.heap.size w).alloc (Nat.le_refl _) _)) hT.1
        rintro e w4 ⟨rfl, b4⟩
        have bel := chain (below_drewN ((Below.refl w.heap.size w).alloc (Nat.le_refl _) _)) b4
        go_wp2_with fail
        go_ret
        first | exact ⟨rfl, bel⟩ | exact ⟨by simp [e4], bel⟩
      | false =>
        clear f2
        go_enter Tryd.func6, Tryd.ntmps6
        go_wp2_with fail
        go_quiet (fail)
        go_wp2_with (first | (go_at_call 8; first | ((with_reducible refine (PureInt.at hF _).mono ?_); rintro e w1 ⟨rfl, rfl⟩)) | (go_at_call 22; first | ((with_reducible refine (PureInt.at hSA _).mono ?_); rintro e w1 ⟨rfl, rfl⟩) | ((with_reducible refine (PureInt.at hSB _).mono ?_); rintro e w1 ⟨rfl, rfl⟩)) | (go_at_call 23; first | ((with_reducible refine (PureInt.at hWA _).mono ?_); rintro e w1 ⟨rfl, rfl⟩) | ((with_reducible refine (PureInt.at hWB _).mono ?_); rintro e w1 ⟨rfl, rfl⟩) | ((with_reducible refine (PureInt.at hWD _).mono ?_); rintro e w1 ⟨rfl, rfl⟩)) | (go_at_call 15; first | ((with_reducible refine (PureInt.at hC _).mono ?_); rintro e w1 ⟨rfl, rfl⟩) | ((with_reducible refine (PureInt.at hC2 _).mono ?_); rintro e w1 ⟨rfl, rfl⟩)) | (go_at_call 20; first | ((with_reducible refine (PureInt.at hA _).mono ?_); rintro e w1 ⟨rfl, rfl⟩)))
        refine (HAW.out _ ?_).mono ?_
        · exact hT.below (below_drewN ((Below.refl w.heap.size w).alloc (Nat.le_refl _) _)) hT.1
        rintro e w4 ⟨rfl, b4⟩
        have bel := chain (below_drewN ((Below.refl w.heap.size w).alloc (Nat.le_refl _) _)) b4
        go_wp2_with fail
        go_ret
        first | exact ⟨rfl, bel⟩ | exact ⟨by simp [e4], bel⟩
  | false =>
    clear f1 f2 f3
    cases wa with
    | false =>
      clear f4
      go_enter Tryd.func6, Tryd.ntmps6
      go_wp2_with fail
      go_quiet (fail)
      go_wp2_with (first | (go_at_call 8; first | ((with_reducible refine (PureInt.at hF _).mono ?_); rintro e w1 ⟨rfl, rfl⟩)) | (go_at_call 22; first | ((with_reducible refine (PureInt.at hSA _).mono ?_); rintro e w1 ⟨rfl, rfl⟩) | ((with_reducible refine (PureInt.at hSB _).mono ?_); rintro e w1 ⟨rfl, rfl⟩)) | (go_at_call 23; first | ((with_reducible refine (PureInt.at hWA _).mono ?_); rintro e w1 ⟨rfl, rfl⟩) | ((with_reducible refine (PureInt.at hWB _).mono ?_); rintro e w1 ⟨rfl, rfl⟩) | ((with_reducible refine (PureInt.at hWD _).mono ?_); rintro e w1 ⟨rfl, rfl⟩)) | (go_at_call 15; first | ((with_reducible refine (PureInt.at hC _).mono ?_); rintro e w1 ⟨rfl, rfl⟩) | ((with_reducible refine (PureInt.at hC2 _).mono ?_); rintro e w1 ⟨rfl, rfl⟩)) | (go_at_call 20; first | ((with_reducible refine (PureInt.at hA _).mono ?_); rintro e w1 ⟨rfl, rfl⟩)))
      refine (HAW.out _ ?_).mono ?_
      · exact hT.below (below_drewN ((Below.refl w.heap.size w).alloc (Nat.le_refl _) _)) hT.1
      rintro e w4 ⟨rfl, b4⟩
      have bel := chain (below_drewN ((Below.refl w.heap.size w).alloc (Nat.le_refl _) _)) b4
      go_wp2_with fail
      go_ret
      first | exact ⟨rfl, bel⟩ | exact ⟨by simp [e4], bel⟩
    | true =>
      by_cases hc : (cb : Int) ≤ k
      · have e4 := f4 rfl hc
        have e5 : (0 : Int) < (c : Int) := by omega
        clear f4
        go_enter Tryd.func6, Tryd.ntmps6
        go_wp2_with fail
        go_quiet (fail)
        go_wp2_with (first | (go_at_call 8; first | ((with_reducible refine (PureInt.at hF _).mono ?_); rintro e w1 ⟨rfl, rfl⟩)) | (go_at_call 22; first | ((with_reducible refine (PureInt.at hSA _).mono ?_); rintro e w1 ⟨rfl, rfl⟩) | ((with_reducible refine (PureInt.at hSB _).mono ?_); rintro e w1 ⟨rfl, rfl⟩)) | (go_at_call 23; first | ((with_reducible refine (PureInt.at hWA _).mono ?_); rintro e w1 ⟨rfl, rfl⟩) | ((with_reducible refine (PureInt.at hWB _).mono ?_); rintro e w1 ⟨rfl, rfl⟩) | ((with_reducible refine (PureInt.at hWD _).mono ?_); rintro e w1 ⟨rfl, rfl⟩)) | (go_at_call 15; first | ((with_reducible refine (PureInt.at hC _).mono ?_); rintro e w1 ⟨rfl, rfl⟩) | ((with_reducible refine (PureInt.at hC2 _).mono ?_); rintro e w1 ⟨rfl, rfl⟩)) | (go_at_call 20; first | ((with_reducible refine (PureInt.at hA _).mono ?_); rintro e w1 ⟨rfl, rfl⟩)))
        refine (HAW.out _ ?_).mono ?_
        · exact hT.below (below_drewN ((Below.refl w.heap.size w).alloc (Nat.le_refl _) _)) hT.1
        rintro e w4 ⟨rfl, b4⟩
        have bel := chain (below_drewN ((Below.refl w.heap.size w).alloc (Nat.le_refl _) _)) b4
        go_wp2_with fail
        go_ret
        first | exact ⟨rfl, bel⟩ | exact ⟨by simp [e4], bel⟩
      · clear f4
        go_enter Tryd.func6, Tryd.ntmps6
        go_wp2_with fail
        go_quiet (fail)
        go_wp2_with (first | (go_at_call 8; first | ((with_reducible refine (PureInt.at hF _).mono ?_); rintro e w1 ⟨rfl, rfl⟩)) | (go_at_call 22; first | ((with_reducible refine (PureInt.at hSA _).mono ?_); rintro e w1 ⟨rfl, rfl⟩) | ((with_reducible refine (PureInt.at hSB _).mono ?_); rintro e w1 ⟨rfl, rfl⟩)) | (go_at_call 23; first | ((with_reducible refine (PureInt.at hWA _).mono ?_); rintro e w1 ⟨rfl, rfl⟩) | ((with_reducible refine (PureInt.at hWB _).mono ?_); rintro e w1 ⟨rfl, rfl⟩) | ((with_reducible refine (PureInt.at hWD _).mono ?_); rintro e w1 ⟨rfl, rfl⟩)) | (go_at_call 15; first | ((with_reducible refine (PureInt.at hC _).mono ?_); rintro e w1 ⟨rfl, rfl⟩) | ((with_reducible refine (PureInt.at hC2 _).mono ?_); rintro e w1 ⟨rfl, rfl⟩)) | (go_at_call 20; first | ((with_reducible refine (PureInt.at hA _).mono ?_); rintro e w1 ⟨rfl, rfl⟩)))
        refine (HAW.out _ ?_).mono ?_
        · exact hT.below (below_drewN ((Below.refl w.heap.size w).alloc (Nat.le_refl _) _)) hT.1
        rintro e w4 ⟨rfl, b4⟩
        have bel := chain (below_drewN ((Below.refl w.heap.size w).alloc (Nat.le_refl _) _)) b4
        go_wp2_with fail
        go_ret
        first | exact ⟨rfl, bel⟩ | exact ⟨by simp [e4], bel⟩
theorem wf_i64 {n : Int} (wn : (Lit.int .i64 n).wf = true) : -9223372036854775808 ≤ n ∧ n ≤ 9223372036854775807 := by
  simp [Lit.wf, IntKind.min, IntKind.max, IntKind.signed, IntKind.bits] at wn; omega
theorem nat_of_wf {x : Int} (h : (Lit.int .u64 x).wf = true) : ∃ n : Nat, x = (n : Int) ∧ n < 18446744073709551616 := by
  simp [Lit.wf, IntKind.min, IntKind.max, IntKind.signed, IntKind.bits] at h
  exact ⟨x.toNat, by omega, by omega⟩
set_option maxRecDepth 100000 in
set_option maxHeartbeats 400000 in
theorem meets_zero (a b d : Nat) (n : Int) (w : World) (ha : a < 18446744073709551616) (hb : b < 18446744073709551616) (hn : -9223372036854775808 ≤ n ∧ n ≤ 9223372036854775807) (hz : fN n = 0) (hT : TabAt w) :
    Calls Tryd.prog 6 #[.agg #[.int .u64 (a : Int), .int .u64 (b : Int), .int .u64 (d : Int), .int .i64 n]] w fun e w' => e = .returned (.bool true) ∧ Below w.heap.size w w' := by
  have hF := faults_any n hn
  have hSA := isStrong_any a ha n hn
  have hWB := isWeak_any b hb n hn
  have s0 : strongZ n = 0 := by unfold strongZ; rw [if_pos hz]
  have w0 : weakZ n = 0 := by unfold weakZ; rw [if_pos hz]
  have e0 : ∀ s, enoughB s n 0 = false := fun s => rfl
  rw [hz] at hF
  rw [s0, e0] at hSA
  rw [w0, e0] at hWB
  simp only [if_true] at hF
  have HAW := Lib.hid (awake_any)
  clear ha hb hn hz s0 w0 e0
  go_enter Tryd.func6, Tryd.ntmps6
  go_wp2_with fail
  go_quiet (fail)
  go_wp2_with fail
  refine (hF _).mono ?_
  rintro e w1 ⟨rfl, rfl⟩
  go_wp2_with fail
  refine (hSA _).mono ?_
  rintro e w1 ⟨rfl, rfl⟩
  go_wp2_with fail
  refine (hWB _).mono ?_
  rintro e w1 ⟨rfl, rfl⟩
  go_wp2_with fail
  refine (HAW.out _ ?_).mono ?_
  · exact hT.below (below_drewN ((Below.refl w.heap.size w).alloc (Nat.le_refl _) _)) hT.1
  rintro e w4 ⟨rfl, b4⟩
  have bel := chain (below_drewN ((Below.refl w.heap.size w).alloc (Nat.le_refl _) _)) b4
  go_wp2_with fail
  go_ret
  exact ⟨rfl, bel⟩
theorem meets_any (a b d : Nat) (n : Int) (w : World) (ha : a < 18446744073709551616) (hb : b < 18446744073709551616) (hd : d < 18446744073709551616) (wn : (Lit.int .i64 n).wf = true) (hT : TabAt w) :
    Calls Tryd.prog 6 #[.agg #[.int .u64 (a : Int), .int .u64 (b : Int), .int .u64 (d : Int), .int .i64 n]] w fun e w' => e = .returned (.bool true) ∧ Below w.heap.size w w' := by
  have hn := wf_i64 wn
  obtain ⟨k, ek⟩ : ∃ k, fN n = k := ⟨_, rfl⟩
  by_cases hk : k = 0
  · exact meets_zero a b d n w ha hb hn (ek.trans hk) hT
  obtain ⟨e1, k1, k2, hall⟩ := all_count n k ek hk
  have hab : a &&& b < 18446744073709551616 := Nat.lt_of_le_of_lt Nat.and_le_left ha
  have had : a &&& (18446744073709551615 - d) < 18446744073709551616 := Nat.lt_of_le_of_lt Nat.and_le_left ha
  have haz : a &&& allZ n < 18446744073709551616 := Nat.lt_of_le_of_lt Nat.and_le_left ha
  have hazd : (a &&& allZ n) &&& (18446744073709551615 - d) < 18446744073709551616 := Nat.lt_of_le_of_lt Nat.and_le_left haz
  have hF := faults_any n hn
  have hSA := isStrong_any a ha n hn
  have hSB := isStrong_any b hb n hn
  have hWA := isWeak_any a ha n hn
  have hWB := isWeak_any _ hab n hn
  have hWD := isWeak_any _ had n hn
  have sZ : strongZ n = 2 * k + 1 := by unfold strongZ; rw [ek, if_neg hk]
  have wZ : weakZ n = k + 1 := by unfold weakZ; rw [ek, if_neg hk]
  rw [ek, if_neg hk] at hF
  rw [sZ, enough_cnt _ _ _ (by omega)] at hSA hSB
  rw [wZ, enough_cnt _ _ _ (by omega)] at hWA hWB hWD
  rw [rest_eq] at hWD
  have m1 := meet_cnt a b n
  have m2 := rest_cnt a d n hd
  rw [hall] at m1
  have E2 := u64_andNot_nat a d ha hd
  have E4 := u64_andNot_nat _ d haz hd
  refine meets_walk a b d _ _ _ _ _ n k _ _ _ true _ _ _ _ w hT ⟨k1, k2⟩ (u64_and_nat a b ha hb) E2 (u64_and_nat a _ ha (allZ_lt n)) E4 hF hSA hSB hWA hWB hWD (count_any d hd) (count_any _ hazd) (all_any n) ?_ ?_ ?_ ?_
  · simp only [decide_eq_true_eq]; omega
  · simp only [decide_eq_true_eq]; omega
  · simp only [decide_eq_true_eq]; omega
  · simp only [decide_eq_true_eq]; omega
theorem three_cells : Tryd.prog.cellsOf 39 = 4 := by kernel_rfl
theorem set_cells : Tryd.prog.cellsOf 29 = 1 := by kernel_rfl
theorem int_cells : Tryd.prog.cellsOf 3 = 1 := by kernel_rfl
theorem array4 {α : Type} {cs : Array α} (h : cs.size = 4) : ∃ c0 c1 c2 c3, cs = #[c0, c1, c2, c3] := by
  obtain ⟨l⟩ := cs
  match l, h with
  | [c0, c1, c2, c3], _ => exact ⟨c0, c1, c2, c3, rfl⟩
section
variable {H : Type} {enc : TypeId × Value → H}
theorem open_three {W : World} {r : Reach} {base b0 : Nat} {sp : Nat → Bool} {hd : Bool} {v : Value} {d : DataW H} {p : List MemPlace}
    (hval : Value.okWide Tryd.prog W r b0 39 v) (h : DataW.Trod enc Tryd.prog W base sp hd 39 v d p) : ∃ (a b c : Nat) (n : Int), v = .agg #[.int .u64 (a : Int), .int .u64 (b : Int), .int .u64 (c : Int), .int .i64 n] ∧ a < 18446744073709551616 ∧ b < 18446744073709551616 ∧ c < 18446744073709551616 ∧ (Lit.int .i64 n).wf = true := by
  obtain ⟨cs, rfl, hsz⟩ := okWide_struct Tryd.underlying39 hval
  obtain ⟨c0, c1, c2, c3, rfl⟩ := array4 (hsz.trans three_cells)
  obtain ⟨fuel, hf⟩ := h
  obtain ⟨xs, n, _, hx, _, hlen, hg⟩ := DataW.trod_struct Tryd.underlying39 hf
  match xs, hlen with
  | [y0, y1, y2, y3], _ =>
    have h0 := hg 0 _ rfl
    have h1 := hg 1 _ rfl
    have h2 := hg 2 _ rfl
    have h3 := hg 3 _ rfl
    simp [Value.cells, set_cells, int_cells] at h0 h1 h2 h3
    obtain ⟨a0, e0, _, u0⟩ := DataW.trod_int Tryd.underlying29 h0
    obtain ⟨a1, e1, _, u1⟩ := DataW.trod_int Tryd.underlying29 h1
    obtain ⟨a2, e2, _, u2⟩ := DataW.trod_int Tryd.underlying29 h2
    obtain ⟨a3, e3, _, u3⟩ := DataW.trod_int Tryd.underlying3 h3
    simp at e0 e1 e2 e3
    subst e0 e1 e2 e3
    obtain ⟨n0, rfl, l0⟩ := nat_of_wf u0
    obtain ⟨n1, rfl, l1⟩ := nat_of_wf u1
    obtain ⟨n2, rfl, l2⟩ := nat_of_wf u2
    exact ⟨n0, n1, n2, a3, rfl, l0, l1, l2, u3⟩
end
end Go.Proofs.YtlhdbggjablofaaDoor
