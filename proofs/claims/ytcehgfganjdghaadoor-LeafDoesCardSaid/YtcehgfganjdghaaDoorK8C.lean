/- Keys: which text is ahead; what begins with what; lengths cut. -/
import Derived.Test.YtcehgfganjdghaaDoorK8B
import Derived.Deep.QuietTactic
import Derived.BigQuiet
namespace Go.Proofs.YtcehgfganjdghaaDoor
open Go Go.RowKit
set_option linter.unusedVariables false
set_option linter.unusedSimpArgs false
theorem less_str (a b : List UInt8) : Op.bytesLess (str a).toList (str b).toList = ltB a b := by rw [str_tl, str_tl, less_cmp]
theorem eq_str (a b : List UInt8) : ((str a).toList == (str b).toList) = decide (a = b) := by
  rw [str_tl, str_tl]
  by_cases h : a = b
  · subst h; simp
  · simp [h]
theorem before_any (a b : List UInt8) : Pure 87 #[.string (str a), .string (str b)] (.bool (decide (b = []) || ltB a b)) := by
  intro w tab
  have hl := less_str a b
  by_cases hb : b = []
  · have hE := emp_true hb
    rw [show (decide (b = []) || ltB a b) = true by simp [hb]]
    clear hb hl
    go_enter Tryd.func87, Tryd.ntmps87
    go_wp2_with fail
    go_ret
    exact ⟨rfl, rfl⟩
  · have hE := emp_false (l := b) (List.length_pos_iff.2 hb)
    rw [show (decide (b = []) || ltB a b) = ltB a b by simp [hb]]
    generalize ltB a b = L at hl ⊢
    clear hb
    go_enter Tryd.func87, Tryd.ntmps87
    go_wp2_with fail
    go_ret
    exact ⟨rfl, rfl⟩
set_option maxRecDepth 100000 in
theorem ahead_any (a b : List UInt8) (ha : a.length ≤ maxLen) (hb : b.length ≤ maxLen) : Ret 48 #[.string (str a), .string (str b)] (.bool (ltB a b)) := by
  intro w tab
  unfold maxLen at ha hb
  have h1 : (str a).size = a.length := str_size a
  have h2 : (str b).size = b.length := str_size b
  obtain ⟨B, hB⟩ : ∃ B, B = ltB a b := ⟨_, rfl⟩
  rw [← hB]
  have HB := Lib.hid hB
  clear hB
  go_enter Tryd.func48, Tryd.ntmps48
  go_wp2_with fail
  go_loopw [5] (fun i wr => ∃ k : Nat, k ≤ a.length ∧ k ≤ b.length ∧ i = .int .i64 (k : Int) ∧ Hid (a.take k = b.take k) ∧ Below w.heap.size w wr) (fun i _ => a.length - (intOf i).toNat)
  case atStart => exact ⟨0, Nat.zero_le _, Nat.zero_le _, rfl, rfl, Below.refl _ _⟩
  case round =>
    obtain ⟨k, hka, hkb, rfl, hs, bel⟩ := hrel
    by_cases hlt : k < a.length ∧ k < b.length
    · obtain ⟨hlta, hltb⟩ := hlt
      have hca : ∀ h : k < (str a).size, ((str a)[k]'h).toNat = (a.getD k 0).toNat := fun h => by rw [k8str_byte]
      have hcb : ∀ h : k < (str b).size, ((str b)[k]'h).toNat = (b.getD k 0).toNat := fun h => by rw [k8str_byte]
      have hat := lt_at hlta hltb hs.out
      have hmo := take_more hlta hltb hs.out
      have hm256 := (a.getD k 0).toNat_lt
      have hn256 := (b.getD k 0).toNat_lt
      generalize (a.getD k 0).toNat = m at *
      generalize (b.getD k 0).toNat = n at *
      by_cases he : m = n
      · subst he
        have HM := Lib.hid (hmo rfl)
        clear hs hat hmo
        go_wp2_with fail
        go_quiet (fail)
        have bel := below_drewN (k := nq) bel
        go_wp2_with fail
        exact ⟨⟨k + 1, by omega, by omega, by push_cast; rfl, HM, bel⟩, by simp [intOf]; omega⟩
      · have HT := Lib.hid (hat he)
        have hne : ((m : Int) != (n : Int)) = true := by simpa using (by omega : ¬ (m : Int) = (n : Int))
        have hne2 : ((m : Int) == (n : Int)) = false := by simpa using (by omega : ¬ (m : Int) = (n : Int))
        clear hs hat hmo he
        obtain ⟨G, hG⟩ : ∃ G, decide ((m : Int) < (n : Int)) = G := ⟨_, rfl⟩
        have HG := Lib.hid hG
        clear hG
        go_wp2_with fail
        go_quiet (fail)
        obtain ⟨v, hv⟩ : ∃ v, v = World.drewN wr nq := ⟨_, rfl⟩
        have bel : Below w.heap.size w v := by rw [hv]; exact below_drewN bel
        rw [← hv]
        clear hv
        go_wp2_with fail
        go_quiet (fail)
        have bel := below_drewN (k := nq) bel
        go_wp2_with fail
        go_ret
        exact ⟨ret_bool (by rw [HB.out, HT.out]), bel⟩
    · have HT := Lib.hid (lt_end hka hkb hs.out (by omega))
      clear hs
      have hor : (k < a.length ∧ b.length ≤ k) ∨ a.length ≤ k := by omega
      rcases hor with ⟨h3, h4⟩ | h3
      · go_wp2_with fail
        go_ret
        exact ⟨ret_bool (by rw [HB.out, HT.out]), bel⟩
      · go_wp2_with fail
        go_ret
        exact ⟨ret_bool (by rw [HB.out, HT.out]), bel⟩
end Go.Proofs.YtcehgfganjdghaaDoor
