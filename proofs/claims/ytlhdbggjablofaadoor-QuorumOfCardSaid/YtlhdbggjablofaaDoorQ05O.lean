/- Quorums: the law QuorumOf. Written by wip/tools/gen5n.py. -/
import Derived.Test.YtlhdbggjablofaaDoorQ05K
namespace Go.Proofs.YtlhdbggjablofaaDoor
open Go.RowKit
set_option linter.unusedVariables false
set_option linter.unusedSimpArgs false
set_option maxRecDepth 100000 in
set_option maxHeartbeats 2000000 in
theorem quorumOf_any (v : Value) (l : List Int) (w : World) (h : RdV w v (l.map iz)) (hT : TabAt w) :
    Calls Tryd.prog 5 #[v] w fun e w' => e = .returned (.bool true) ∧ Below w.heap.size w w' := by
  obtain ⟨ao, cap, ev, hlc, hcm, -, -⟩ := id h
  obtain ⟨n, en⟩ : ∃ n, n = l.length := ⟨_, rfl⟩
  rw [List.length_map, ← en] at ev hlc
  subst ev
  unfold maxLen at hcm
  have R := Lib.hid h
  clear h en
  by_cases h2 : 200 < n
  · have R' := R.out.short 200 (by omega)
    rw [← List.map_take] at R'
    generalize l.take 200 = L' at R'
    go_enter Tryd.func5, Tryd.ntmps5
    go_wp2_with fail
    refine (of_any _ L' _ R').mono ?_
    rintro e w1 ⟨rfl, rfl⟩
    have hS : ∀ j : Nat, j < 64 → hasZ (ofZ L' 0) (j : Int) = decide ((j : Int) ∈ L') := fun j hj => by
      rw [hasZ_in _ j hj, ofZ_bit _ _ _ hj, Nat.zero_testBit, Bool.false_or]
    have HH := refHas_any _ (ofZ_lt L' 0 (by decide))
    generalize ofZ L' 0 = S at HH hS ⊢
    have HS := Lib.hid hS
    have HHH := Lib.hid HH
    have AW := Lib.hid (awake_any w hT)
    obtain ⟨ao', cap', e1, -, -, -, hx⟩ := R'
    injection e1 with e2 e3 e4
    subst e2
    rw [List.length_map] at e3 hx
    have EN := Lib.hid e3
    have HX := Lib.hid hx
    clear hS HH hx e3 e4 hT
    go_wp2_with fail
    go_loop [4] (fun i => ∃ j : Nat, j ≤ 64 ∧ i = .int .i64 (j : Int)) (fun i => 64 - (intOf i).toNat)
    case atStart => exact ⟨0, by omega, rfl⟩
    case round =>
      obtain ⟨j, hj, rfl⟩ := hrel
      by_cases hlt : j < 64
      · go_wp2_with fail
        go_loop [5, 6] (fun x i => ∃ (k : Nat) (b : Bool), k ≤ 200 ∧ i = .int .i64 (k : Int) ∧ x = .bool b ∧ Hid (b = decide ((j : Int) ∈ L'.take k))) (fun _ i => 200 - (intOf i).toNat)
        case atStart => exact ⟨0, false, by omega, rfl, rfl, by simp [Hid]⟩
        case round =>
          obtain ⟨k, b, hk, rfl, rfl, hb⟩ := hrel
          by_cases hkn : k < 200
          · have hkl : k < L'.length := by have := EN.out; omega
            obtain ⟨c, f, rfl, hcl, hcell⟩ := HX.out (by omega)
            have hc : w.cell? ⟨c, f + k, none⟩ = some (.int .i64 L'[k]) := by rw [hcell k hkl]; simp [iz, hkl]
            have hn : decide ((j : Int) ∈ L'.take (k + 1)) = (decide ((j : Int) ∈ L'.take k) || (L'[k] == (j : Int))) := by
              rw [List.take_succ_eq_append_getElem hkl, Bool.eq_iff_iff]
              simp only [decide_eq_true_eq, List.mem_append, List.mem_singleton, Bool.or_eq_true, beq_iff_eq]
              exact ⟨fun h => h.imp id Eq.symm, fun h => h.imp id Eq.symm⟩
            rw [← hb.out] at hn
            generalize L'[k] = z at hc hn
            have HN := Lib.hid hn
            clear hn hb hcell
            cases b with
            | true =>
              go_wp2_with fail
              exact ⟨⟨k + 1, true, by omega, by push_cast; rfl, rfl, by show _ = _; rw [HN.out]; rfl⟩, by simp [intOf]; omega⟩
            | false =>
              go_wp2_with fail
              exact ⟨⟨k + 1, _, by omega, by push_cast; rfl, rfl, by show _ = _; rw [HN.out, Bool.false_or]⟩, by simp [intOf]; omega⟩
          · obtain rfl : k = 200 := by omega
            have hR := HHH.out (j : Int)
            have e5 : b = decide ((j : Int) ∈ L') := by rw [hb.out, List.take_of_length_le (by have := EN.out; omega)]
            rw [HS.out j hlt, ← e5] at hR
            clear e5 hb
            cases b
            all_goals
              go_wp2_with fail
              refine (hR _).mono ?_
              rintro e w3 ⟨rfl, rfl⟩
              go_wp2_with fail
              exact ⟨⟨j + 1, by omega, by push_cast; rfl⟩, by simp [intOf]; omega⟩
      · obtain rfl : j = 64 := by omega
        go_wp2_with fail
        refine AW.out.mono ?_
        rintro e w4 ⟨rfl, b4⟩
        go_wp2_with fail
        go_ret
        exact ⟨rfl, b4⟩
  · have R' := R.out
    generalize l = L' at R'
    go_enter Tryd.func5, Tryd.ntmps5
    go_wp2_with fail
    refine (of_any _ L' _ R').mono ?_
    rintro e w1 ⟨rfl, rfl⟩
    have hS : ∀ j : Nat, j < 64 → hasZ (ofZ L' 0) (j : Int) = decide ((j : Int) ∈ L') := fun j hj => by
      rw [hasZ_in _ j hj, ofZ_bit _ _ _ hj, Nat.zero_testBit, Bool.false_or]
    have HH := refHas_any _ (ofZ_lt L' 0 (by decide))
    generalize ofZ L' 0 = S at HH hS ⊢
    have HS := Lib.hid hS
    have HHH := Lib.hid HH
    have AW := Lib.hid (awake_any w hT)
    obtain ⟨ao', cap', e1, -, -, -, hx⟩ := R'
    injection e1 with e2 e3 e4
    subst e2
    rw [List.length_map] at e3 hx
    have EN := Lib.hid e3
    have HX := Lib.hid hx
    clear hS HH hx e3 e4 hT
    go_wp2_with fail
    go_loop [4] (fun i => ∃ j : Nat, j ≤ 64 ∧ i = .int .i64 (j : Int)) (fun i => 64 - (intOf i).toNat)
    case atStart => exact ⟨0, by omega, rfl⟩
    case round =>
      obtain ⟨j, hj, rfl⟩ := hrel
      by_cases hlt : j < 64
      · go_wp2_with fail
        go_loop [5, 6] (fun x i => ∃ (k : Nat) (b : Bool), k ≤ n ∧ i = .int .i64 (k : Int) ∧ x = .bool b ∧ Hid (b = decide ((j : Int) ∈ L'.take k))) (fun _ i => n - (intOf i).toNat)
        case atStart => exact ⟨0, false, by omega, rfl, rfl, by simp [Hid]⟩
        case round =>
          obtain ⟨k, b, hk, rfl, rfl, hb⟩ := hrel
          by_cases hkn : k < n
          · have hkl : k < L'.length := by have := EN.out; omega
            obtain ⟨c, f, rfl, hcl, hcell⟩ := HX.out (by omega)
            have hc : w.cell? ⟨c, f + k, none⟩ = some (.int .i64 L'[k]) := by rw [hcell k hkl]; simp [iz, hkl]
            have hn : decide ((j : Int) ∈ L'.take (k + 1)) = (decide ((j : Int) ∈ L'.take k) || (L'[k] == (j : Int))) := by
              rw [List.take_succ_eq_append_getElem hkl, Bool.eq_iff_iff]
              simp only [decide_eq_true_eq, List.mem_append, List.mem_singleton, Bool.or_eq_true, beq_iff_eq]
              exact ⟨fun h => h.imp id Eq.symm, fun h => h.imp id Eq.symm⟩
            rw [← hb.out] at hn
            generalize L'[k] = z at hc hn
            have HN := Lib.hid hn
            clear hn hb hcell
            cases b with
            | true =>
              go_wp2_with fail
              exact ⟨⟨k + 1, true, by omega, by push_cast; rfl, rfl, by show _ = _; rw [HN.out]; rfl⟩, by simp [intOf]; omega⟩
            | false =>
              go_wp2_with fail
              exact ⟨⟨k + 1, _, by omega, by push_cast; rfl, rfl, by show _ = _; rw [HN.out, Bool.false_or]⟩, by simp [intOf]; omega⟩
          · obtain rfl : k = n := by omega
            have hR := HHH.out (j : Int)
            have e5 : b = decide ((j : Int) ∈ L') := by rw [hb.out, List.take_of_length_le (by have := EN.out; omega)]
            rw [HS.out j hlt, ← e5] at hR
            clear e5 hb
            cases b
            all_goals
              go_wp2_with fail
              refine (hR _).mono ?_
              rintro e w3 ⟨rfl, rfl⟩
              go_wp2_with fail
              exact ⟨⟨j + 1, by omega, by push_cast; rfl⟩, by simp [intOf]; omega⟩
      · obtain rfl : j = 64 := by omega
        go_wp2_with fail
        refine AW.out.mono ?_
        rintro e w4 ⟨rfl, b4⟩
        go_wp2_with fail
        go_ret
        exact ⟨rfl, b4⟩
end Go.Proofs.YtlhdbggjablofaaDoor
