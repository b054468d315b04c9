/- Cut of package varint: what it reads is what the document says, whatever bytes there are. -/
import Derived.Test.YtcehgfganjdghaaDoorProg
import Derived.Test.YtcehgfganjdghaaDoorQVTC16
import Derived.WalkKit
namespace Go.Proofs.YtcehgfganjdghaaDoor
open Go.RowKit
set_option linter.unusedVariables false
set_option linter.unusedSimpArgs false
/-- Three results as a value. -/
def cutV (r : Nat × Nat × Nat) : Value := .tuple #[.int .u64 (r.1 : Int), .int .i64 (r.2.1 : Int), .int .i64 (r.2.2 : Int)]
set_option maxRecDepth 100000 in
set_option maxHeartbeats 400000 in
theorem cut_any (v : Value) (l : List UInt8) (w : World) (h : Rd w v l) :
    Calls Tryd.prog 92 #[v] w fun e w' => e = .returned (cutV (cutL l)) ∧ w = w' := by
  obtain ⟨ao, cap, rfl, hl, hm, hn, hx⟩ := h
  unfold maxLen at hm
  by_cases h0 : l.length = 0
  · obtain rfl : l = [] := List.eq_nil_of_length_eq_zero h0
    clear hn hx h0 hl hm
    go_enter Tryd.func92, Tryd.ntmps92
    go_wp2; go_step3; go_wp2; go_step3; go_wp2
    go_loop [5, 6] (fun v i => i = .int .i64 0) (fun _ i => 0)
    case atStart => rfl
    case round =>
      obtain rfl := hrel
      go_wp2
      go_ret3
      exact ⟨rfl, rfl⟩
  · obtain ⟨b, off, rfl, hb, hcell⟩ := hx (by omega)
    clear h0
    clear hx hn
    have HC := Lib.hid hcell
    clear hcell
    go_enter Tryd.func92, Tryd.ntmps92
    go_wp2; go_step3; go_wp2; go_step3; go_wp2
    go_loop [5, 6] (fun v i => ∃ k a : Nat, k ≤ 9 ∧ k ≤ l.length ∧ i = .int .i64 k ∧ v = .int .u64 a ∧ Hid (a < 128 ^ k) ∧ Hid (cutGo k a (l.drop k) = cutL l)) (fun _ i => 10 - (intOf i).toNat)
    case atStart => exact ⟨0, 0, by omega, by omega, rfl, rfl, by show _ < _; decide, rfl⟩
    case round =>
      obtain ⟨k, a, hk9, hkl, rfl, rfl, ha, hr⟩ := hrel
      by_cases hlt : k < l.length
      · have hcc := HC.out k hlt
        obtain ⟨c, hc⟩ : ∃ c, (l.getD k 0).toNat = c := ⟨_, rfl⟩
        have hc256 : c < 256 := by rw [← hc]; exact (l.getD k 0).toNat_lt
        rw [bv, hc] at hcc
        have Hc := Lib.hid hc
        clear hc
        by_cases h9 : k = 9 ∧ 1 < c
        · obtain ⟨rfl, h1⟩ := h9
          have hres := cut_over hr hlt Hc rfl h1
          have HR := Lib.hid hres
          clear hres
          go_wp2
          go_ret3
          refine ⟨?_, rfl⟩
          rw [HR.out]; rfl
        · by_cases h128 : c < 128
          · by_cases h0 : c = 0 ∧ 0 < k
            · obtain ⟨hc0, hk0⟩ := h0
              have hres := cut_form hr hlt Hc h9 hc0 hk0
              have hc0 : c ≤ 0 := by omega
              have HR := Lib.hid hres
              clear hres hr Hc
              rcases Decidable.em (k = 9) with rfl | hk
              all_goals
                go_wp2
                go_ret3
                refine ⟨?_, rfl⟩
                rw [HR.out]; rfl
            · have hres := cut_ok hr hlt Hc h9 h128 h0
              have HR := Lib.hid hres
              clear hres hr Hc
              by_cases hc0 : c = 0
              · obtain rfl : k = 0 := by omega
                subst hc0
                clear h9 h0
                rw [Nat.add_zero] at hcc
                have e := or_shift a 0 0 (by omega) ha.out (by decide)
                have E := Lib.hid e
                clear e
                go_wp2
                go_ret3
                refine ⟨?_, rfl⟩
                rw [HR.out]
                have e := E.out
                simp [IntKind.wrap_u64] at e
                simp [cutV, e]
              · have e := or_shift a c k hk9 ha.out (shift_fits hk9 h128 (by omega))
                have E := Lib.hid e
                clear e
                rcases Decidable.em (k = 9) with rfl | hk
                · have hc1 : c ≤ 1 := by omega
                  have e := E.out
                  rw [IntKind.wrap_u64, show (c : Int) * 2 ^ (7 * 9) % 18446744073709551616 = (c : Int) * 9223372036854775808 from by omega] at e
                  have E2 := Lib.hid e
                  clear e E
                  go_wp2
                  go_ret3
                  refine ⟨?_, rfl⟩
                  rw [HR.out]
                  show Ending.returned (.tuple #[.int .u64 (bits BinOp.or .u64 (a : Int) ((c : Int) * 9223372036854775808)), .int .i64 10, .int .i64 0]) = _
                  rw [E2.out]; rfl
                · go_wp2
                  go_ret3
                  refine ⟨?_, rfl⟩
                  rw [HR.out]
                  show Ending.returned (.tuple #[.int .u64 (bits BinOp.or .u64 (a : Int) (IntKind.u64.wrap ((c : Int) * 2 ^ (7 * k)))), .int .i64 ((k : Int) + 1), .int .i64 0]) = _
                  rw [E.out]; rfl
          · by_cases hk : k = 9
            · omega
            · have hres := cut_more hr ha hlt Hc h9 (by omega)
              have H1 := Lib.hid hres
              have e := or_shift a (c - 128) k hk9 ha.out (shift_fits hk9 (by omega) (by omega))
              have E := Lib.hid e
              clear hres hr Hc h9 e
              go_wp2
              go_round
              case rel =>
                refine ⟨k + 1, a + (c - 128) * 128 ^ k, by omega, by omega, by go_num, ?_, H1.out.2, H1.out.1⟩
                have e := E.out
                rw [show ((c - 128 : Nat) : Int) = (c : Int) - 128 from by omega] at e
                rw [e]
              case measure => simp [intOf]; omega
      · have hres := cut_end hr (by omega)
        obtain rfl : k = l.length := by omega
        have HR := Lib.hid hres
        clear hres
        go_wp2
        go_ret3
        refine ⟨?_, rfl⟩
        rw [HR.out]; rfl
end Go.Proofs.YtcehgfganjdghaaDoor
