/- Keys: the small calls, by the program and by the document. -/
/- Keys: what is a key, a pattern; what begins; what is ahead. -/
/- Keys: which text is ahead; what begins with what; lengths cut. -/
import Derived.Test.YtbdfcgffkonbiaaGreatDoorQSSC1
import Derived.Test.YtbdfcgffkonbiaaGreatDoorQSSC5
import Derived.Test.YtbdfcgffkonbiaaGreatDoorQSSC7
import Derived.Test.YtbdfcgffkonbiaaGreatDoorProg
import Derived.Lib.Hide
import Derived.Deep.QuietTactic
import Derived.BigQuiet
namespace Go.Proofs.YtbdfcgffkonbiaaGreatDoor
open Go Go.RowKit
set_option linter.unusedVariables false
set_option linter.unusedSimpArgs false
theorem str_tl (l : List UInt8) : (str l).toList = l := by unfold str; simp
theorem ret_bool {a b : Bool} (h : a = b) : Ending.returned (.bool a) = Ending.returned (.bool b) := by rw [h]
theorem ret_str {a b : ByteArray} (h : a = b) : Ending.returned (.string a) = Ending.returned (.string b) := by rw [h]
theorem k8str_byte (l : List UInt8) (k : Nat) (h : k < (str l).size) : (str l)[k]'h = l.getD k 0 := by
  have h' : k < l.length := by rwa [str_size] at h
  show l.toArray[k] = _
  simp [List.getD, h']
theorem k8str_extract (l : List UInt8) (i j : Nat) : (str l).extract i j = str ((l.drop i).take (j - i)) := by
  apply ByteArray.ext
  simp [str, ByteArray.data_extract]
theorem k8str_append (a b : List UInt8) : str a ++ str b = str (a ++ b) := by
  apply ByteArray.ext
  simp [str, ByteArray.data_append]
theorem str_e : (ByteArray.mk #[]) = str [] := rfl
/-- The table of bytes that a key may have, as it lies in memory. -/
def TabAt (w : World) : Prop := 1 < w.heap.size ∧ w.cell? ⟨1, 0, none⟩ = some (.int .u64 288195191779622912) ∧ w.cell? ⟨1, 1, none⟩ = some (.int .u64 576460745860972544)
theorem TabAt.below {w w' : World} (h : TabAt w) (g : Below w.heap.size w w') : TabAt w' :=
  ⟨Nat.lt_of_lt_of_le h.1 g.size, (g.cell (p := ⟨1, 0, none⟩) h.1).trans h.2.1, (g.cell (p := ⟨1, 1, none⟩) h.1).trans h.2.2⟩
/-- A call hands back this, whatever the world; what was there stays. -/
def Ret (f : Nat) (args : Array Value) (v : Value) : Prop := ∀ w, TabAt w → Calls Tryz.prog f args w fun e w' => e = .returned v ∧ Below w.heap.size w w'
theorem Ret.at {f : Nat} {args : Array Value} {v : Value} (h : Ret f args v) (w : World) (t : TabAt w) : Calls Tryz.prog f args w fun e w' => e = .returned v ∧ Below w.heap.size w w' := h w t
/-- The same of a call that leaves the world as it is. -/
def Pure (f : Nat) (args : Array Value) (v : Value) : Prop := ∀ w, TabAt w → Calls Tryz.prog f args w fun e w' => e = .returned v ∧ w = w'
theorem Pure.ret {f : Nat} {args : Array Value} {v : Value} (h : Pure f args v) : Ret f args v := fun w t => (h w t).mono fun e w' x => ⟨x.1, by rw [← x.2]; exact Below.refl _ _⟩
set_option maxRecDepth 100000 in
theorem mayHave_any (m : Nat) (hm : m < 256) : Pure 70 #[.int .u8 (m : Int)] (.bool (okN m)) := by
  rintro w ⟨t0, t1, t2⟩
  by_cases h : m < 128
  · by_cases h6 : m < 64
    · have e1 : (m : Int) / 64 = 0 := by omega
      have e2 : (m : Int) % 64 = (m : Int) := by omega
      have e3 := tab_ok0 m h6
      generalize okN m = B at e3
      go_enter Tryz.func70, Tryz.ntmps70
      go_wp2_with fail
      go_ret
      exact ⟨rfl, rfl⟩
    · obtain ⟨n, rfl⟩ : ∃ n, m = 64 + n := ⟨m - 64, by omega⟩
      have e1 : ((64 + n : Nat) : Int) / 64 = 1 := by omega
      have e2 : ((64 + n : Nat) : Int) % 64 = (n : Int) := by omega
      have e3 := tab_ok1 n (by omega)
      generalize okN (64 + n) = B at e3
      generalize 64 + n = k at *
      go_enter Tryz.func70, Tryz.ntmps70
      go_wp2_with fail
      go_ret
      exact ⟨rfl, rfl⟩
  · have e : okN m = false := by unfold okN; simp; omega
    rw [e]
    go_enter Tryz.func70, Tryz.ntmps70
    go_wp2_with fail
    go_ret
    exact ⟨rfl, rfl⟩
set_option maxRecDepth 100000 in
theorem sign_any (m : Nat) (hm : m < 256) : Pure 35 #[.int .u8 (m : Int)] (.bool (okN m)) := by
  rintro w -
  obtain ⟨B, hB⟩ : ∃ B, B = okN m := ⟨_, rfl⟩
  rw [← hB]
  have HB := Lib.hid hB
  clear hB
  rcases (show m < 45 ∨ m = 45 ∨ m = 46 ∨ m = 47 ∨ (48 ≤ m ∧ m ≤ 57) ∨ (58 ≤ m ∧ m < 95) ∨ m = 95 ∨ m = 96 ∨ (97 ≤ m ∧ m ≤ 122) ∨ 122 < m by omega) with h | rfl | rfl | rfl | ⟨h, h'⟩ | ⟨h, h'⟩ | rfl | rfl | ⟨h, h'⟩ | h
  all_goals
    go_enter Tryz.func35, Tryz.ntmps35
    go_wp2_with fail
    all_goals
      go_ret
      refine ⟨ret_bool ?_, rfl⟩
      rw [HB.out]
      unfold okN
      first | rfl | (rw [Bool.eq_iff_iff]; simp; omega)
end Go.Proofs.YtbdfcgffkonbiaaGreatDoor
namespace Go.Proofs.YtbdfcgffkonbiaaGreatDoor
open Go Go.RowKit
set_option linter.unusedVariables false
set_option linter.unusedSimpArgs false
theorem isB_long {l : List UInt8} (h : 24 < l.length) : isB l = false := by
  have : ¬ l.length ≤ 24 := by omega
  simp [isB, patB, this]
theorem isB_nil : isB [] = false := rfl
theorem isB_mid {l : List UInt8} (h0 : 0 < l.length) (h : l.length ≤ 24) : isB l = l.all okc := by simp [isB, patB, h, h0]
theorem emp_true {l : List UInt8} (h : l = []) : (str l).toList.isEmpty = true := by rw [str_tl, h]; rfl
theorem emp_false {l : List UInt8} (h : 0 < l.length) : (str l).toList.isEmpty = false := by
  rw [str_tl]
  cases l with
  | nil => simp at h
  | cons => rfl
set_option maxRecDepth 100000 in
theorem is_any (l : List UInt8) (hl : l.length ≤ maxLen) : Pure 55 #[.string (str l)] (.bool (isB l)) := by
  intro w tab
  have hz : (str l).size = l.length := str_size l
  unfold maxLen at hl
  by_cases h0 : l.length = 0
  · obtain rfl : l = [] := List.eq_nil_of_length_eq_zero h0
    have hne := emp_true (l := []) rfl
    rw [isB_nil]
    go_enter Tryz.func55, Tryz.ntmps55
    go_wp2_with fail
    go_ret
    exact ⟨rfl, rfl⟩
  · have hne := emp_false (l := l) (by omega)
    by_cases h24 : 24 < l.length
    · rw [isB_long h24]
      go_enter Tryz.func55, Tryz.ntmps55
      go_wp2_with fail
      go_ret
      exact ⟨rfl, rfl⟩
    · rw [isB_mid (by omega) (by omega)]
      obtain ⟨B, hB⟩ : ∃ B, B = l.all okc := ⟨_, rfl⟩
      rw [← hB]
      have HB := Lib.hid hB
      clear hB
      go_enter Tryz.func55, Tryz.ntmps55
      go_wp2_with fail
      go_loop [3, 13] (fun _ i => ∃ k : Nat, k ≤ l.length ∧ i = .int .i64 (k : Int) ∧ Hid ((l.take k).all okc = true)) (fun _ i => l.length - (intOf i).toNat)
      case atStart => exact ⟨0, Nat.zero_le _, rfl, rfl⟩
      case round =>
        obtain ⟨k, hk, rfl, hs⟩ := hrel
        by_cases hlt : k < l.length
        · have hcc : ∀ h : k < (str l).size, ((str l)[k]'h).toNat = (l.getD k 0).toNat := fun h => by rw [k8str_byte]
          obtain ⟨c, hc⟩ : ∃ c, c = l.getD k 0 := ⟨_, rfl⟩
          rw [← hc] at hcc
          have h256 := c.toNat_lt
          have MH := mayHave_any c.toNat h256
          have eo : okc c = okN c.toNat := rfl
          have ht := all_take hlt hs.out
          have hn := all_no hlt
          rw [← hc] at ht hn
          cases hb : okN c.toNat with
          | true =>
            rw [hb] at MH eo
            rw [eo] at ht
            have HT := Lib.hid ht
            generalize c.toNat = m at *
            clear hc hs ht hn eo hb
            go_wp2_with (go_at_call 70; refine (MH _ tab).mono ?_; rintro e w' ⟨rfl, rfl⟩)
            exact ⟨⟨k + 1, by omega, by push_cast; rfl, HT⟩, by simp [intOf]; omega⟩
          | false =>
            rw [hb] at MH eo
            have hno := hn eo
            have HN := Lib.hid hno
            generalize c.toNat = m at *
            clear hc hs ht hn eo hb hno
            go_wp2_with (go_at_call 70; refine (MH _ tab).mono ?_; rintro e w' ⟨rfl, rfl⟩)
            go_ret
            exact ⟨ret_bool (by rw [HB.out, HN.out]), rfl⟩
        · have hall : l.all okc = true := by have := hs.out; rwa [List.take_of_length_le (by omega)] at this
          have HA := Lib.hid hall
          obtain rfl : k = l.length := by omega
          clear hall hs
          go_wp2_with fail
          go_ret
          exact ⟨ret_bool (by rw [HB.out, HA.out]), rfl⟩
set_option maxRecDepth 100000 in
theorem refPattern_any (l : List UInt8) (hl : l.length ≤ maxLen) : Pure 15 #[.string (str l)] (.bool (patB l)) := by
  intro w tab
  have hz : (str l).size = l.length := str_size l
  unfold maxLen at hl
  obtain ⟨B, hB⟩ : ∃ B, B = patB l := ⟨_, rfl⟩
  rw [← hB]
  have HB := Lib.hid hB
  clear hB
  go_enter Tryz.func15, Tryz.ntmps15
  go_wp2_with fail
  go_loop [3] (fun i => ∃ k : Nat, k ≤ l.length ∧ i = .int .i64 (k : Int) ∧ Hid ((l.take k).all okc = true)) (fun i => l.length - (intOf i).toNat)
  case atStart => exact ⟨0, Nat.zero_le _, rfl, rfl⟩
  case round =>
    obtain ⟨k, hk, rfl, hs⟩ := hrel
    by_cases hlt : k < l.length
    · have hcc : ∀ h : k < (str l).size, ((str l)[k]'h).toNat = (l.getD k 0).toNat := fun h => by rw [k8str_byte]
      obtain ⟨c, hc⟩ : ∃ c, c = l.getD k 0 := ⟨_, rfl⟩
      rw [← hc] at hcc
      have h256 := c.toNat_lt
      have MH := sign_any c.toNat h256
      have eo : okc c = okN c.toNat := rfl
      have ht := all_take hlt hs.out
      have hn := all_no hlt
      rw [← hc] at ht hn
      cases hb : okN c.toNat with
      | true =>
        rw [hb] at MH eo
        rw [eo] at ht
        have HT := Lib.hid ht
        generalize c.toNat = m at *
        clear hc hs ht hn eo hb
        go_wp2_with (go_at_call 35; refine (MH _ tab).mono ?_; rintro e w' ⟨rfl, rfl⟩)
        exact ⟨⟨k + 1, by omega, by push_cast; rfl, HT⟩, by simp [intOf]; omega⟩
      | false =>
        rw [hb] at MH eo
        have hno := hn eo
        have HN := Lib.hid hno
        generalize c.toNat = m at *
        clear hc hs ht hn eo hb hno
        go_wp2_with (go_at_call 35; refine (MH _ tab).mono ?_; rintro e w' ⟨rfl, rfl⟩)
        go_ret
        exact ⟨ret_bool (by rw [HB.out]; unfold patB; rw [HN.out, Bool.and_false]), rfl⟩
    · have hall : l.all okc = true := by have := hs.out; rwa [List.take_of_length_le (by omega)] at this
      have HA := Lib.hid hall
      obtain rfl : k = l.length := by omega
      clear hall hs
      by_cases h24 : l.length ≤ 24
      · go_wp2_with fail
        go_ret
        exact ⟨ret_bool (by rw [HB.out]; unfold patB; rw [HA.out]; simp [h24]; omega), rfl⟩
      · go_wp2_with fail
        go_ret
        exact ⟨ret_bool (by rw [HB.out]; unfold patB; rw [HA.out]; simp [h24]; omega), rfl⟩
end Go.Proofs.YtbdfcgffkonbiaaGreatDoor
namespace Go.Proofs.YtbdfcgffkonbiaaGreatDoor
open Go Go.RowKit
set_option linter.unusedVariables false
set_option linter.unusedSimpArgs false
theorem less_str (a b : List UInt8) : Op.bytesLess (str a).toList (str b).toList = ltB a b := by rw [str_tl, str_tl, less_cmp]
theorem eq_str (a b : List UInt8) : ((str a).toList == (str b).toList) = decide (a = b) := by
  rw [str_tl, str_tl]
  by_cases h : a = b
  · subst h; simp
  · simp [h]
set_option maxRecDepth 100000 in
theorem ahead_any (a b : List UInt8) (ha : a.length ≤ maxLen) (hb : b.length ≤ maxLen) : Ret 52 #[.string (str a), .string (str b)] (.bool (ltB a b)) := by
  intro w tab
  unfold maxLen at ha hb
  have h1 : (str a).size = a.length := str_size a
  have h2 : (str b).size = b.length := str_size b
  obtain ⟨B, hB⟩ : ∃ B, B = ltB a b := ⟨_, rfl⟩
  rw [← hB]
  have HB := Lib.hid hB
  clear hB
  go_enter Tryz.func52, Tryz.ntmps52
  go_wp2_with fail
  go_loopw [5] (fun i wr => ∃ k : Nat, k ≤ a.length ∧ k ≤ b.length ∧ i = .int .i64 (k : Int) ∧ Hid (a.take k = b.take k) ∧ Below w.heap.size w wr) (fun i _ => a.length - (intOf i).toNat)
  case atStart => exact ⟨0, Nat.zero_le _, Nat.zero_le _, rfl, rfl, Below.refl _ _⟩
  case round =>
    obtain ⟨k, hka, hkb, rfl, hs, bel⟩ := hrel
    by_cases hlt : k < a.length ∧ k < b.length
    · obtain ⟨hlta, hltb⟩ := hlt
      have hca : ∀ h : k < (str a).size, ((str a)[k]'h).toNat = (a.getD k 0).toNat := fun h => by rw [k8str_byte]
      have hcb : ∀ h : k < (str b).size, ((str b)[k]'h).toNat = (b.getD k 0).toNat := fun h => by rw [k8str_byte]
      have hat := lt_at hlta hltb hs.out
      have hmo := take_more hlta hltb hs.out
      have hm256 := (a.getD k 0).toNat_lt
      have hn256 := (b.getD k 0).toNat_lt
      generalize (a.getD k 0).toNat = m at *
      generalize (b.getD k 0).toNat = n at *
      by_cases he : m = n
      · subst he
        have HM := Lib.hid (hmo rfl)
        clear hs hat hmo
        go_wp2_with fail
        go_quiet (fail)
        have bel := below_drewN (k := nq) bel
        go_wp2_with fail
        exact ⟨⟨k + 1, by omega, by omega, by push_cast; rfl, HM, bel⟩, by simp [intOf]; omega⟩
      · have HT := Lib.hid (hat he)
        have hne : ((m : Int) != (n : Int)) = true := by simpa using (by omega : ¬ (m : Int) = (n : Int))
        have hne2 : ((m : Int) == (n : Int)) = false := by simpa using (by omega : ¬ (m : Int) = (n : Int))
        clear hs hat hmo he
        obtain ⟨G, hG⟩ : ∃ G, decide ((m : Int) < (n : Int)) = G := ⟨_, rfl⟩
        have HG := Lib.hid hG
        clear hG
        go_wp2_with fail
        go_quiet (fail)
        obtain ⟨v, hv⟩ : ∃ v, v = World.drewN wr nq := ⟨_, rfl⟩
        have bel : Below w.heap.size w v := by rw [hv]; exact below_drewN bel
        rw [← hv]
        clear hv
        go_wp2_with fail
        go_quiet (fail)
        have bel := below_drewN (k := nq) bel
        go_wp2_with fail
        go_ret
        exact ⟨ret_bool (by rw [HB.out, HT.out]), bel⟩
    · have HT := Lib.hid (lt_end hka hkb hs.out (by omega))
      clear hs
      have hor : (k < a.length ∧ b.length ≤ k) ∨ a.length ≤ k := by omega
      rcases hor with ⟨h3, h4⟩ | h3
      · go_wp2_with fail
        go_ret
        exact ⟨ret_bool (by rw [HB.out, HT.out]), bel⟩
      · go_wp2_with fail
        go_ret
        exact ⟨ret_bool (by rw [HB.out, HT.out]), bel⟩
end Go.Proofs.YtbdfcgffkonbiaaGreatDoor
