/- The document's cut of a string's bytes: the plain function's answer. -/
import Derived.Test.YtcehgfganjdghaaDoorQVTC19
namespace Go.Proofs.YtcehgfganjdghaaDoor
open Go.RowKit
set_option linter.unusedVariables false
set_option linter.unusedSimpArgs false
theorem str_byte (l : List UInt8) (k : Nat) (h : k < (str l).size) : (str l)[k]'h = l.getD k 0 := by
  have h' : k < l.length := by rwa [str_size] at h
  show l.toArray[k] = _
  simp [List.getD, h']
set_option maxRecDepth 100000 in
set_option maxHeartbeats 400000 in
theorem refCut_at (l : List UInt8) (x n c : Nat) (hr : Hid (cutL l = (x, n, c))) (hlen : l.length ≤ maxLen) (w : World) :
    Calls Tryd.prog 67 #[.string (str l)] w fun e w' => e = .returned (.tuple #[.int .u64 x, .int .i64 n, .int .i64 c]) ∧ w = w' := by
  unfold maxLen at hlen
  have hsz : (str l).size = l.length := str_size l
  go_enter Tryd.func67, Tryd.ntmps67
  go_wp2
  go_loop [5] (fun i => ∃ k : Nat, k ≤ 8 ∧ k ≤ l.length ∧ i = .int .i64 k ∧ Hid (cutGo k (val (l.take k)) (l.drop k) = cutL l)) (fun i => 10 - (intOf i).toNat)
  case atStart => exact ⟨0, by omega, by omega, rfl, rfl⟩
  case round =>
    obtain ⟨k, hk8, hkl, rfl, hs⟩ := hrel
    by_cases hlt : k < l.length
    · have hcc : ∀ h : k < (str l).size, ((str l)[k]'h).toNat = (l.getD k 0).toNat := fun h => by rw [str_byte]
      obtain ⟨c0, hc⟩ : ∃ c, (l.getD k 0).toNat = c := ⟨_, rfl⟩
      have hc256 : c0 < 256 := by rw [← hc]; exact (l.getD k 0).toNat_lt
      simp only [hc] at hcc
      have Hc := Lib.hid hc
      clear hc
      by_cases h128 : c0 < 128
      · by_cases h0 : c0 = 0 ∧ 0 < k
        · obtain ⟨h00, hk0⟩ := h0
          have ha : Hid (val (l.take k) < 128 ^ k) := by have := val_lt (l.take k); rw [List.length_take, Nat.min_eq_left (by omega)] at this; exact this
          have hres := hr.out.symm.trans (cut_form hs hlt Hc (by omega) h00 hk0)
          simp only [Prod.mk.injEq] at hres
          obtain ⟨rfl, rfl, rfl⟩ := hres
          have h00 : c0 ≤ 0 := by omega
          clear hs Hc ha
          go_wp2
          go_ret3
          exact ⟨rfl, rfl⟩
        · have hres := hr.out.symm.trans (cut_ok' hs hlt Hc (by omega) h128 h0)
          simp only [Prod.mk.injEq] at hres
          obtain ⟨rfl, rfl, rfl⟩ := hres
          clear hs Hc
          have hf := cutL_facts hr.out
          have hx := hf.1
          have hv := Lib.hid hx
          clear hf hx
          go_wp2_with fail
          all_goals
            go_loop [6, 7] (fun v i => ∃ m : Nat, m ≤ k + 1 ∧ i = .int .i64 ((m : Int) - 1) ∧ v = .int .u64 (val ((l.take (k + 1)).drop m) : Nat)) (fun _ i => (intOf i + 1).toNat)
            case atStart => exact ⟨k + 1, by omega, by first | rfl | go_num, by rw [List.drop_eq_nil_of_le (by simp; omega)]; rfl⟩
            case round =>
              obtain ⟨m, hm, rfl, rfl⟩ := hrel
              cases m with
              | zero =>
                go_wp2
                go_ret3
                exact ⟨rfl, rfl⟩
              | succ q =>
                rw [show (((q + 1 : Nat) : Int) - 1) = (q : Int) from by omega]
                have hq : ∀ h : q < (str l).size, ((str l)[q]'h).toNat = (l.getD q 0).toNat := fun h => by rw [str_byte]
                have hvd := val_step l (k + 1) q (by omega) (by omega) hv.out
                obtain ⟨cq, hcq⟩ : ∃ c, (l.getD q 0).toNat = c := ⟨_, rfl⟩
                have hcq256 : cq < 256 := by rw [← hcq]; exact (l.getD q 0).toNat_lt
                rw [hcq] at hvd
                simp only [hcq] at hq
                clear hcq
                have HD := Lib.hid hvd
                clear hvd
                go_wp2
                rw [HD.out]
                go_round
                case rel => exact ⟨q, by omega, rfl, rfl⟩
                case measure => simp [intOf]
      · have hs' := cut_more' hs hlt Hc (by omega) (by omega)
        rcases Nat.lt_or_ge k 8 with hk | hk
        · clear hs Hc
          go_wp2
          go_round
          case rel => exact ⟨k + 1, by omega, by omega, by go_num, hs'⟩
          case measure => simp [intOf]; omega
        · obtain rfl : k = 8 := by omega
          clear hs Hc
          have hs9 : Hid (cutGo 9 (val (l.take 9)) (l.drop 9) = cutL l) := hs'
          clear hs'
          by_cases h9 : 9 < l.length
          · have hcc9 : ∀ h : 9 < (str l).size, ((str l)[9]'h).toNat = (l.getD 9 0).toNat := fun h => by rw [str_byte]
            obtain ⟨c9, hc9⟩ : ∃ c, (l.getD 9 0).toNat = c := ⟨_, rfl⟩
            have hc9256 : c9 < 256 := by rw [← hc9]; exact (l.getD 9 0).toNat_lt
            simp only [hc9] at hcc9
            have Hc9 := Lib.hid hc9
            clear hc9
            by_cases h1 : 1 < c9
            · have hres := hr.out.symm.trans (cut_over hs9 h9 Hc9 rfl h1)
              simp only [Prod.mk.injEq] at hres
              obtain ⟨rfl, rfl, rfl⟩ := hres
              clear hs9 Hc9
              go_wp2
              go_ret3
              exact ⟨rfl, rfl⟩
            · by_cases h0 : c9 = 0
              · have hres := hr.out.symm.trans (cut_form hs9 h9 Hc9 (by omega) h0 (by omega))
                simp only [Prod.mk.injEq] at hres
                obtain ⟨rfl, rfl, rfl⟩ := hres
                have h00 : c9 ≤ 0 := by omega
                clear hs9 Hc9 h0
                go_wp2
                go_ret3
                exact ⟨rfl, rfl⟩
              · have hres := hr.out.symm.trans (cut_ok' hs9 h9 Hc9 (by omega) (by omega) (by omega))
                simp only [Prod.mk.injEq] at hres
                obtain ⟨rfl, rfl, rfl⟩ := hres
                have hp9 : 0 < c9 := by omega
                clear hs9 Hc9 h0
                have hf := cutL_facts hr.out
                have hx := hf.1
                have hv := Lib.hid hx
                clear hf hx
                go_wp2_with fail
                all_goals
                  go_loop [6, 7] (fun v i => ∃ m : Nat, m ≤ 9 + 1 ∧ i = .int .i64 ((m : Int) - 1) ∧ v = .int .u64 (val ((l.take (9 + 1)).drop m) : Nat)) (fun _ i => (intOf i + 1).toNat)
                  case atStart => exact ⟨9 + 1, by omega, by first | rfl | go_num, by rw [List.drop_eq_nil_of_le (by simp; omega)]; rfl⟩
                  case round =>
                    obtain ⟨m, hm, rfl, rfl⟩ := hrel
                    cases m with
                    | zero =>
                      go_wp2
                      go_ret3
                      exact ⟨rfl, rfl⟩
                    | succ q =>
                      rw [show (((q + 1 : Nat) : Int) - 1) = (q : Int) from by omega]
                      have hq : ∀ h : q < (str l).size, ((str l)[q]'h).toNat = (l.getD q 0).toNat := fun h => by rw [str_byte]
                      have hvd := val_step l (9 + 1) q (by omega) (by omega) hv.out
                      obtain ⟨cq, hcq⟩ : ∃ c, (l.getD q 0).toNat = c := ⟨_, rfl⟩
                      have hcq256 : cq < 256 := by rw [← hcq]; exact (l.getD q 0).toNat_lt
                      rw [hcq] at hvd
                      simp only [hcq] at hq
                      clear hcq
                      have HD := Lib.hid hvd
                      clear hvd
                      go_wp2
                      rw [HD.out]
                      go_round
                      case rel => exact ⟨q, by omega, rfl, rfl⟩
                      case measure => simp [intOf]
          · have hres := hr.out.symm.trans (cut_end hs9 (by omega))
            simp only [Prod.mk.injEq] at hres
            obtain ⟨rfl, rfl, rfl⟩ := hres
            clear hs9
            go_wp2
            go_ret3
            exact ⟨rfl, rfl⟩
    · have hres := hr.out.symm.trans (cut_end hs (by omega))
      simp only [Prod.mk.injEq] at hres
      obtain ⟨rfl, rfl, rfl⟩ := hres
      clear hs
      go_wp2
      go_ret3
      exact ⟨rfl, rfl⟩
end Go.Proofs.YtcehgfganjdghaaDoor
