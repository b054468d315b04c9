/- Keys: what is a key, a pattern; what begins; what is ahead. -/
/- Keys: which text is ahead; what begins with what; lengths cut. -/
import Derived.Test.YtjmfiekgpoonjaaDoorQLPC6
import Derived.Deep.QuietTactic
import Derived.BigQuiet
namespace Go.Proofs.YtjmfiekgpoonjaaDoor
open Go Go.RowKit
set_option linter.unusedVariables false
set_option linter.unusedSimpArgs false
theorem isB_long {l : List UInt8} (h : 24 < l.length) : isB l = false := by
  have : ¬ l.length ≤ 24 := by omega
  simp [isB, patB, this]
theorem isB_nil : isB [] = false := rfl
theorem isB_mid {l : List UInt8} (h0 : 0 < l.length) (h : l.length ≤ 24) : isB l = l.all okc := by simp [isB, patB, h, h0]
theorem emp_true {l : List UInt8} (h : l = []) : (str l).toList.isEmpty = true := by rw [str_tl, h]; rfl
theorem emp_false {l : List UInt8} (h : 0 < l.length) : (str l).toList.isEmpty = false := by
  rw [str_tl]
  cases l with
  | nil => simp at h
  | cons => rfl
set_option maxRecDepth 100000 in
theorem is_any (l : List UInt8) (hl : l.length ≤ maxLen) : Pure 63 #[.string (str l)] (.bool (isB l)) := by
  intro w tab
  have hz : (str l).size = l.length := str_size l
  unfold maxLen at hl
  by_cases h0 : l.length = 0
  · obtain rfl : l = [] := List.eq_nil_of_length_eq_zero h0
    have hne := emp_true (l := []) rfl
    rw [isB_nil]
    go_enter Tryd.func63, Tryd.ntmps63
    go_wp2_with fail
    go_ret
    exact ⟨rfl, rfl⟩
  · have hne := emp_false (l := l) (by omega)
    by_cases h24 : 24 < l.length
    · rw [isB_long h24]
      go_enter Tryd.func63, Tryd.ntmps63
      go_wp2_with fail
      go_ret
      exact ⟨rfl, rfl⟩
    · rw [isB_mid (by omega) (by omega)]
      obtain ⟨B, hB⟩ : ∃ B, B = l.all okc := ⟨_, rfl⟩
      rw [← hB]
      have HB := Lib.hid hB
      clear hB
      go_enter Tryd.func63, Tryd.ntmps63
      go_wp2_with fail
      go_loop [3, 13] (fun _ i => ∃ k : Nat, k ≤ l.length ∧ i = .int .i64 (k : Int) ∧ Hid ((l.take k).all okc = true)) (fun _ i => l.length - (intOf i).toNat)
      case atStart => exact ⟨0, Nat.zero_le _, rfl, rfl⟩
      case round =>
        obtain ⟨k, hk, rfl, hs⟩ := hrel
        by_cases hlt : k < l.length
        · have hcc : ∀ h : k < (str l).size, ((str l)[k]'h).toNat = (l.getD k 0).toNat := fun h => by rw [str_byte]
          obtain ⟨c, hc⟩ : ∃ c, c = l.getD k 0 := ⟨_, rfl⟩
          rw [← hc] at hcc
          have h256 := c.toNat_lt
          have MH := mayHave_any c.toNat h256
          have eo : okc c = okN c.toNat := rfl
          have ht := all_take hlt hs.out
          have hn := all_no hlt
          rw [← hc] at ht hn
          cases hb : okN c.toNat with
          | true =>
            rw [hb] at MH eo
            rw [eo] at ht
            have HT := Lib.hid ht
            generalize c.toNat = m at *
            clear hc hs ht hn eo hb
            go_wp2_with (go_at_call 71; refine (MH _ tab).mono ?_; rintro e w' ⟨rfl, rfl⟩)
            exact ⟨⟨k + 1, by omega, by push_cast; rfl, HT⟩, by simp [intOf]; omega⟩
          | false =>
            rw [hb] at MH eo
            have hno := hn eo
            have HN := Lib.hid hno
            generalize c.toNat = m at *
            clear hc hs ht hn eo hb hno
            go_wp2_with (go_at_call 71; refine (MH _ tab).mono ?_; rintro e w' ⟨rfl, rfl⟩)
            go_ret
            exact ⟨ret_bool (by rw [HB.out, HN.out]), rfl⟩
        · have hall : l.all okc = true := by have := hs.out; rwa [List.take_of_length_le (by omega)] at this
          have HA := Lib.hid hall
          obtain rfl : k = l.length := by omega
          clear hall hs
          go_wp2_with fail
          go_ret
          exact ⟨ret_bool (by rw [HB.out, HA.out]), rfl⟩
set_option maxRecDepth 100000 in
theorem refPattern_any (l : List UInt8) (hl : l.length ≤ maxLen) : Pure 68 #[.string (str l)] (.bool (patB l)) := by
  intro w tab
  have hz : (str l).size = l.length := str_size l
  unfold maxLen at hl
  obtain ⟨B, hB⟩ : ∃ B, B = patB l := ⟨_, rfl⟩
  rw [← hB]
  have HB := Lib.hid hB
  clear hB
  go_enter Tryd.func68, Tryd.ntmps68
  go_wp2_with fail
  go_loop [3] (fun i => ∃ k : Nat, k ≤ l.length ∧ i = .int .i64 (k : Int) ∧ Hid ((l.take k).all okc = true)) (fun i => l.length - (intOf i).toNat)
  case atStart => exact ⟨0, Nat.zero_le _, rfl, rfl⟩
  case round =>
    obtain ⟨k, hk, rfl, hs⟩ := hrel
    by_cases hlt : k < l.length
    · have hcc : ∀ h : k < (str l).size, ((str l)[k]'h).toNat = (l.getD k 0).toNat := fun h => by rw [str_byte]
      obtain ⟨c, hc⟩ : ∃ c, c = l.getD k 0 := ⟨_, rfl⟩
      rw [← hc] at hcc
      have h256 := c.toNat_lt
      have MH := sign_any c.toNat h256
      have eo : okc c = okN c.toNat := rfl
      have ht := all_take hlt hs.out
      have hn := all_no hlt
      rw [← hc] at ht hn
      cases hb : okN c.toNat with
      | true =>
        rw [hb] at MH eo
        rw [eo] at ht
        have HT := Lib.hid ht
        generalize c.toNat = m at *
        clear hc hs ht hn eo hb
        go_wp2_with (go_at_call 73; refine (MH _ tab).mono ?_; rintro e w' ⟨rfl, rfl⟩)
        exact ⟨⟨k + 1, by omega, by push_cast; rfl, HT⟩, by simp [intOf]; omega⟩
      | false =>
        rw [hb] at MH eo
        have hno := hn eo
        have HN := Lib.hid hno
        generalize c.toNat = m at *
        clear hc hs ht hn eo hb hno
        go_wp2_with (go_at_call 73; refine (MH _ tab).mono ?_; rintro e w' ⟨rfl, rfl⟩)
        go_ret
        exact ⟨ret_bool (by rw [HB.out]; unfold patB; rw [HN.out, Bool.and_false]), rfl⟩
    · have hall : l.all okc = true := by have := hs.out; rwa [List.take_of_length_le (by omega)] at this
      have HA := Lib.hid hall
      obtain rfl : k = l.length := by omega
      clear hall hs
      by_cases h24 : l.length ≤ 24
      · go_wp2_with fail
        go_ret
        exact ⟨ret_bool (by rw [HB.out]; unfold patB; rw [HA.out]; simp [h24]; omega), rfl⟩
      · go_wp2_with fail
        go_ret
        exact ⟨ret_bool (by rw [HB.out]; unfold patB; rw [HA.out]; simp [h24]; omega), rfl⟩
end Go.Proofs.YtjmfiekgpoonjaaDoor
namespace Go.Proofs.YtjmfiekgpoonjaaDoor
open Go Go.RowKit
set_option linter.unusedVariables false
set_option linter.unusedSimpArgs false
theorem less_str (a b : List UInt8) : Op.bytesLess (str a).toList (str b).toList = ltB a b := by rw [str_tl, str_tl, less_cmp]
theorem eq_str (a b : List UInt8) : ((str a).toList == (str b).toList) = decide (a = b) := by
  rw [str_tl, str_tl]
  by_cases h : a = b
  · subst h; simp
  · simp [h]
theorem begins_any (a b : List UInt8) (ha : a.length ≤ maxLen) (hb : b.length ≤ maxLen) : Pure 69 #[.string (str a), .string (str b)] (.bool (Lib.hasPrefix a b)) := by
  intro w tab
  unfold maxLen at ha hb
  have h1 : (str a).size = a.length := str_size a
  have h2 : (str b).size = b.length := str_size b
  obtain ⟨B, hB⟩ : ∃ B, B = Lib.hasPrefix a b := ⟨_, rfl⟩
  rw [← hB]
  by_cases h : b.length ≤ a.length
  · have hx : (((str a).extract 0 b.length).toList == (str b).toList) = B := by
      rw [hB, str_extract, List.drop_zero, Nat.sub_zero, eq_str, ← Lib.hasPrefix_of_take]
      by_cases e : a.take b.length = b <;> simp [h, e]
    clear hB
    go_enter Tryd.func69, Tryd.ntmps69
    go_wp2_with fail
    go_ret
    exact ⟨rfl, rfl⟩
  · have hx : B = false := by
      rw [hB, ← Lib.hasPrefix_of_take]
      simp [h]
    have HX := Lib.hid hx
    clear hB hx
    go_enter Tryd.func69, Tryd.ntmps69
    go_wp2_with fail
    go_ret
    exact ⟨ret_bool HX.out.symm, rfl⟩
theorem prefix_any (a b : List UInt8) : Pure 72 #[.string (str a), .string (str b)] (.bool (Lib.hasPrefix a b)) := by
  intro w tab
  have := Tryd.strings_HasPrefix (str a) (str b) w
  rw [str_toList, str_toList] at this
  exact this.mono fun e w' h => ⟨h.1, h.2.symm⟩
end Go.Proofs.YtjmfiekgpoonjaaDoor
