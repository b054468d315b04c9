/- Keys: the small calls, by the program and by the document. -/
/- Keys: what is a key, a pattern; what begins; what is ahead. -/
/- Keys: which text is ahead; what begins with what; lengths cut. -/
/- Keys: a text with its last byte turned. Written by wip/tools/gen8d.py. -/
/- Keys: the calls that ask one thing behind the other. Written by wip/tools/gen8e.py. -/
/- Keys: the contracts of the small calls, whatever texts. Written by wip/tools/gen8f.py. -/
/- Values: what may be; the small ones. -/
/- Values: the small ones. -/
/- Values: what may be, by the document; how two are to one another. -/
import Derived.Test.YtoagdmglchccnaaGreatDoorQRR11
import Derived.Test.YtoagdmglchccnaaGreatDoorQRR2
import Derived.Test.YtoagdmglchccnaaGreatDoorQRR4
import Derived.Test.YtoagdmglchccnaaGreatDoorProg
import Derived.Lib.Hide
import Derived.Deep.QuietTactic
import Derived.BigQuiet
import Derived.Test.YtoagdmglchccnaaGreatDoorQRR7
import Derived.WalkKit
import Derived.WalkSpells
import Derived.StillTailTactics
namespace Go.Proofs.YtoagdmglchccnaaGreatDoor
open Go Go.RowKit
set_option linter.unusedVariables false
set_option linter.unusedSimpArgs false
theorem str_tl (l : List UInt8) : (str l).toList = l := by unfold str; simp
theorem ret_bool {a b : Bool} (h : a = b) : Ending.returned (.bool a) = Ending.returned (.bool b) := by rw [h]
theorem k8str_byte (l : List UInt8) (k : Nat) (h : k < (str l).size) : (str l)[k]'h = l.getD k 0 := by
  have h' : k < l.length := by rwa [str_size] at h
  show l.toArray[k] = _
  simp [List.getD, h']
theorem str_e : (ByteArray.mk #[]) = str [] := rfl
/-- The table of bytes that a key may have, as it lies in memory. -/
def TabAt (w : World) : Prop := 0 < w.heap.size ∧ w.cell? ⟨0, 0, none⟩ = some (.int .u64 288195191779622912) ∧ w.cell? ⟨0, 1, none⟩ = some (.int .u64 576460745860972544)
theorem TabAt.below {w w' : World} (h : TabAt w) (g : Below w.heap.size w w') : TabAt w' :=
  ⟨Nat.lt_of_lt_of_le h.1 g.size, (g.cell (p := ⟨0, 0, none⟩) h.1).trans h.2.1, (g.cell (p := ⟨0, 1, none⟩) h.1).trans h.2.2⟩
/-- A call hands back this, whatever the world; what was there stays. -/
def Ret (f : Nat) (args : Array Value) (v : Value) : Prop := ∀ w, TabAt w → Calls Tryz.prog f args w fun e w' => e = .returned v ∧ Below w.heap.size w w'
theorem Ret.at {f : Nat} {args : Array Value} {v : Value} (h : Ret f args v) (w : World) (t : TabAt w) : Calls Tryz.prog f args w fun e w' => e = .returned v ∧ Below w.heap.size w w' := h w t
/-- The same of a call that leaves the world as it is. -/
def Pure (f : Nat) (args : Array Value) (v : Value) : Prop := ∀ w, TabAt w → Calls Tryz.prog f args w fun e w' => e = .returned v ∧ w = w'
theorem Pure.ret {f : Nat} {args : Array Value} {v : Value} (h : Pure f args v) : Ret f args v := fun w t => (h w t).mono fun e w' x => ⟨x.1, by rw [← x.2]; exact Below.refl _ _⟩
set_option maxRecDepth 100000 in
theorem mayHave_any (m : Nat) (hm : m < 256) : Pure 136 #[.int .u8 (m : Int)] (.bool (okN m)) := by
  rintro w ⟨t0, t1, t2⟩
  by_cases h : m < 128
  · by_cases h6 : m < 64
    · have e1 : (m : Int) / 64 = 0 := by omega
      have e2 : (m : Int) % 64 = (m : Int) := by omega
      have e3 := tab_ok0 m h6
      generalize okN m = B at e3
      go_enter Tryz.func136, Tryz.ntmps136
      go_wp2_with fail
      go_ret
      exact ⟨rfl, rfl⟩
    · obtain ⟨n, rfl⟩ : ∃ n, m = 64 + n := ⟨m - 64, by omega⟩
      have e1 : ((64 + n : Nat) : Int) / 64 = 1 := by omega
      have e2 : ((64 + n : Nat) : Int) % 64 = (n : Int) := by omega
      have e3 := tab_ok1 n (by omega)
      generalize okN (64 + n) = B at e3
      generalize 64 + n = k at *
      go_enter Tryz.func136, Tryz.ntmps136
      go_wp2_with fail
      go_ret
      exact ⟨rfl, rfl⟩
  · have e : okN m = false := by unfold okN; simp; omega
    rw [e]
    go_enter Tryz.func136, Tryz.ntmps136
    go_wp2_with fail
    go_ret
    exact ⟨rfl, rfl⟩
set_option maxRecDepth 100000 in
theorem sign_any (m : Nat) (hm : m < 256) : Pure 140 #[.int .u8 (m : Int)] (.bool (okN m)) := by
  rintro w -
  obtain ⟨B, hB⟩ : ∃ B, B = okN m := ⟨_, rfl⟩
  rw [← hB]
  have HB := Lib.hid hB
  clear hB
  rcases (show m < 45 ∨ m = 45 ∨ m = 46 ∨ m = 47 ∨ (48 ≤ m ∧ m ≤ 57) ∨ (58 ≤ m ∧ m < 95) ∨ m = 95 ∨ m = 96 ∨ (97 ≤ m ∧ m ≤ 122) ∨ 122 < m by omega) with h | rfl | rfl | rfl | ⟨h, h'⟩ | ⟨h, h'⟩ | rfl | rfl | ⟨h, h'⟩ | h
  all_goals
    go_enter Tryz.func140, Tryz.ntmps140
    go_wp2_with fail
    all_goals
      go_ret
      refine ⟨ret_bool ?_, rfl⟩
      rw [HB.out]
      unfold okN
      first | rfl | (rw [Bool.eq_iff_iff]; simp; omega)
end Go.Proofs.YtoagdmglchccnaaGreatDoor
namespace Go.Proofs.YtoagdmglchccnaaGreatDoor
open Go Go.RowKit
set_option linter.unusedVariables false
set_option linter.unusedSimpArgs false
theorem isB_long {l : List UInt8} (h : 24 < l.length) : isB l = false := by
  have : ¬ l.length ≤ 24 := by omega
  simp [isB, patB, this]
theorem isB_nil : isB [] = false := rfl
theorem isB_mid {l : List UInt8} (h0 : 0 < l.length) (h : l.length ≤ 24) : isB l = l.all okc := by simp [isB, patB, h, h0]
theorem emp_true {l : List UInt8} (h : l = []) : (str l).toList.isEmpty = true := by rw [str_tl, h]; rfl
theorem emp_false {l : List UInt8} (h : 0 < l.length) : (str l).toList.isEmpty = false := by
  rw [str_tl]
  cases l with
  | nil => simp at h
  | cons => rfl
set_option maxRecDepth 100000 in
theorem is_any (l : List UInt8) (hl : l.length ≤ maxLen) : Pure 105 #[.string (str l)] (.bool (isB l)) := by
  intro w tab
  have hz : (str l).size = l.length := str_size l
  unfold maxLen at hl
  by_cases h0 : l.length = 0
  · obtain rfl : l = [] := List.eq_nil_of_length_eq_zero h0
    have hne := emp_true (l := []) rfl
    rw [isB_nil]
    go_enter Tryz.func105, Tryz.ntmps105
    go_wp2_with fail
    go_ret
    exact ⟨rfl, rfl⟩
  · have hne := emp_false (l := l) (by omega)
    by_cases h24 : 24 < l.length
    · rw [isB_long h24]
      go_enter Tryz.func105, Tryz.ntmps105
      go_wp2_with fail
      go_ret
      exact ⟨rfl, rfl⟩
    · rw [isB_mid (by omega) (by omega)]
      obtain ⟨B, hB⟩ : ∃ B, B = l.all okc := ⟨_, rfl⟩
      rw [← hB]
      have HB := Lib.hid hB
      clear hB
      go_enter Tryz.func105, Tryz.ntmps105
      go_wp2_with fail
      go_loop [3, 13] (fun _ i => ∃ k : Nat, k ≤ l.length ∧ i = .int .i64 (k : Int) ∧ Hid ((l.take k).all okc = true)) (fun _ i => l.length - (intOf i).toNat)
      case atStart => exact ⟨0, Nat.zero_le _, rfl, rfl⟩
      case round =>
        obtain ⟨k, hk, rfl, hs⟩ := hrel
        by_cases hlt : k < l.length
        · have hcc : ∀ h : k < (str l).size, ((str l)[k]'h).toNat = (l.getD k 0).toNat := fun h => by rw [k8str_byte]
          obtain ⟨c, hc⟩ : ∃ c, c = l.getD k 0 := ⟨_, rfl⟩
          rw [← hc] at hcc
          have h256 := c.toNat_lt
          have MH := mayHave_any c.toNat h256
          have eo : okc c = okN c.toNat := rfl
          have ht := all_take hlt hs.out
          have hn := all_no hlt
          rw [← hc] at ht hn
          cases hb : okN c.toNat with
          | true =>
            rw [hb] at MH eo
            rw [eo] at ht
            have HT := Lib.hid ht
            generalize c.toNat = m at *
            clear hc hs ht hn eo hb
            go_wp2_with (go_at_call 136; refine (MH _ tab).mono ?_; rintro e w' ⟨rfl, rfl⟩)
            exact ⟨⟨k + 1, by omega, by push_cast; rfl, HT⟩, by simp [intOf]; omega⟩
          | false =>
            rw [hb] at MH eo
            have hno := hn eo
            have HN := Lib.hid hno
            generalize c.toNat = m at *
            clear hc hs ht hn eo hb hno
            go_wp2_with (go_at_call 136; refine (MH _ tab).mono ?_; rintro e w' ⟨rfl, rfl⟩)
            go_ret
            exact ⟨ret_bool (by rw [HB.out, HN.out]), rfl⟩
        · have hall : l.all okc = true := by have := hs.out; rwa [List.take_of_length_le (by omega)] at this
          have HA := Lib.hid hall
          obtain rfl : k = l.length := by omega
          clear hall hs
          go_wp2_with fail
          go_ret
          exact ⟨ret_bool (by rw [HB.out, HA.out]), rfl⟩
set_option maxRecDepth 100000 in
theorem refPattern_any (l : List UInt8) (hl : l.length ≤ maxLen) : Pure 119 #[.string (str l)] (.bool (patB l)) := by
  intro w tab
  have hz : (str l).size = l.length := str_size l
  unfold maxLen at hl
  obtain ⟨B, hB⟩ : ∃ B, B = patB l := ⟨_, rfl⟩
  rw [← hB]
  have HB := Lib.hid hB
  clear hB
  go_enter Tryz.func119, Tryz.ntmps119
  go_wp2_with fail
  go_loop [3] (fun i => ∃ k : Nat, k ≤ l.length ∧ i = .int .i64 (k : Int) ∧ Hid ((l.take k).all okc = true)) (fun i => l.length - (intOf i).toNat)
  case atStart => exact ⟨0, Nat.zero_le _, rfl, rfl⟩
  case round =>
    obtain ⟨k, hk, rfl, hs⟩ := hrel
    by_cases hlt : k < l.length
    · have hcc : ∀ h : k < (str l).size, ((str l)[k]'h).toNat = (l.getD k 0).toNat := fun h => by rw [k8str_byte]
      obtain ⟨c, hc⟩ : ∃ c, c = l.getD k 0 := ⟨_, rfl⟩
      rw [← hc] at hcc
      have h256 := c.toNat_lt
      have MH := sign_any c.toNat h256
      have eo : okc c = okN c.toNat := rfl
      have ht := all_take hlt hs.out
      have hn := all_no hlt
      rw [← hc] at ht hn
      cases hb : okN c.toNat with
      | true =>
        rw [hb] at MH eo
        rw [eo] at ht
        have HT := Lib.hid ht
        generalize c.toNat = m at *
        clear hc hs ht hn eo hb
        go_wp2_with (go_at_call 140; refine (MH _ tab).mono ?_; rintro e w' ⟨rfl, rfl⟩)
        exact ⟨⟨k + 1, by omega, by push_cast; rfl, HT⟩, by simp [intOf]; omega⟩
      | false =>
        rw [hb] at MH eo
        have hno := hn eo
        have HN := Lib.hid hno
        generalize c.toNat = m at *
        clear hc hs ht hn eo hb hno
        go_wp2_with (go_at_call 140; refine (MH _ tab).mono ?_; rintro e w' ⟨rfl, rfl⟩)
        go_ret
        exact ⟨ret_bool (by rw [HB.out]; unfold patB; rw [HN.out, Bool.and_false]), rfl⟩
    · have hall : l.all okc = true := by have := hs.out; rwa [List.take_of_length_le (by omega)] at this
      have HA := Lib.hid hall
      obtain rfl : k = l.length := by omega
      clear hall hs
      by_cases h24 : l.length ≤ 24
      · go_wp2_with fail
        go_ret
        exact ⟨ret_bool (by rw [HB.out]; unfold patB; rw [HA.out]; simp [h24]; omega), rfl⟩
      · go_wp2_with fail
        go_ret
        exact ⟨ret_bool (by rw [HB.out]; unfold patB; rw [HA.out]; simp [h24]; omega), rfl⟩
end Go.Proofs.YtoagdmglchccnaaGreatDoor
namespace Go.Proofs.YtoagdmglchccnaaGreatDoor
open Go Go.RowKit
set_option linter.unusedVariables false
set_option linter.unusedSimpArgs false
theorem less_str (a b : List UInt8) : Op.bytesLess (str a).toList (str b).toList = ltB a b := by rw [str_tl, str_tl, less_cmp]
theorem eq_str (a b : List UInt8) : ((str a).toList == (str b).toList) = decide (a = b) := by
  rw [str_tl, str_tl]
  by_cases h : a = b
  · subst h; simp
  · simp [h]
end Go.Proofs.YtoagdmglchccnaaGreatDoor
namespace Go.Proofs.YtoagdmglchccnaaGreatDoor
open Go Go.RowKit
set_option linter.unusedVariables false
set_option linter.unusedSimpArgs false
end Go.Proofs.YtoagdmglchccnaaGreatDoor
namespace Go.Proofs.YtoagdmglchccnaaGreatDoor
open Go Go.RowKit
set_option linter.unusedVariables false
set_option linter.unusedSimpArgs false
set_option maxRecDepth 100000
theorem refIs_g (l : List UInt8) (hz : 0 < (str l).size) (hm : (str l).size ≤ 9223372036854775807) (b : Bool) (H1 : Ret 119 #[.string (str l)] (.bool b))   : Ret 91 #[.string (str l)] (.bool b) := by
  intro w tab
  have bel := Below.refl w.heap.size w
  cases b with
  | false =>
    go_enter Tryz.func91, Tryz.ntmps91
    go_wp2_with (first | ((with_reducible refine (H1.at _ tab).mono ?_); rintro e w' ⟨rfl, g⟩; have tab := tab.below g; have bel := chain bel g; clear g))
    go_ret
    exact ⟨rfl, bel⟩
  | true =>
    go_enter Tryz.func91, Tryz.ntmps91
    go_wp2_with (first | ((with_reducible refine (H1.at _ tab).mono ?_); rintro e w' ⟨rfl, g⟩; have tab := tab.below g; have bel := chain bel g; clear g))
    go_ret
    exact ⟨rfl, bel⟩
end Go.Proofs.YtoagdmglchccnaaGreatDoor
namespace Go.Proofs.YtoagdmglchccnaaGreatDoor
open Go Go.RowKit
set_option linter.unusedVariables false
set_option linter.unusedSimpArgs false
theorem bool_cast {f : Nat} {args : Array Value} {b b' : Bool} (h : Ret f args (.bool b)) (e : b = b') : Ret f args (.bool b') := e ▸ h
theorem isB_pos {l : List UInt8} (h : l ≠ []) : isB l = patB l := by
  have : 0 < l.length := List.length_pos_iff.2 h
  simp [isB, this]
theorem refIs_any (l : List UInt8) (hl : l.length ≤ maxLen) : Ret 91 #[.string (str l)] (.bool (isB l)) := by
  have hz := str_size l
  have hl2 := hl
  unfold maxLen at hl2
  by_cases h : l = []
  · subst h
    intro w tab
    have hz0 : (str []).size = 0 := str_size []
    clear hz hl hl2
    rw [isB_nil]
    go_enter Tryz.func91, Tryz.ntmps91
    go_wp2_with fail
    go_ret
    exact ⟨rfl, Below.refl _ _⟩
  · have h0 : 0 < l.length := List.length_pos_iff.2 h
    exact bool_cast (refIs_g l (by omega) (by omega) _ (refPattern_any l hl).ret) (isB_pos h).symm
/-- May a text be the end of a range? -/
def stopB (l : List UInt8) : Bool := patB l || (!decide (l = []) && isB (shiftL l 255))
def overB (f t p : List UInt8) : Bool := patB f && patB p && stopB t && (decide (endL p = []) || ltB f (endL p)) && (decide (t = []) || ltB p t)
end Go.Proofs.YtoagdmglchccnaaGreatDoor
namespace Go.Proofs.YtoagdmglchccnaaGreatDoor.V7
open Go.RowKit
set_option linter.unusedVariables false
set_option linter.unusedSimpArgs false
theorem str_tl (l : List UInt8) : (str l).toList = l := by unfold str; simp
theorem ret_bool {a b : Bool} (h : a = b) : Ending.returned (.bool a) = Ending.returned (.bool b) := by rw [h]
set_option maxRecDepth 100000 in
theorem may_any (k i : Int) (s : List UInt8) (w : World) (hs : s.length ≤ maxLen) :
    Calls Tryz.prog 106 #[.agg #[.int .i64 k, .int .i64 i, .string (str s)]] w fun e w' => e = .returned (.bool (mayB ⟨k, i, s⟩)) ∧ Below w.heap.size w w' := by
  unfold maxLen at hs
  have bel : ∀ o, Below w.heap.size w (w.alloc o) := fun o => (Below.refl _ _).alloc (Nat.le_refl _) o
  have BEL := Lib.hid bel
  clear bel
  have hz : (str s).size = s.length := str_size s
  go_enter Tryz.func106, Tryz.ntmps106
  go_wp2_with fail
  all_goals
    go_ret
    refine ⟨ret_bool ?_, BEL.out _⟩
    clear BEL hz
    rw [Bool.eq_iff_iff]
    simp only [mayB, str_tl, decide_eq_true_eq, List.isEmpty_iff]
    simp only [bne_iff_ne, beq_iff_eq, bne_eq_false_iff_eq, beq_eq_false_iff_ne, ne_eq, Bool.false_eq_true, false_iff, not_or, not_and] at *
    first | omega | (simp_all; done) | (simp_all; omega)
end Go.Proofs.YtoagdmglchccnaaGreatDoor.V7
namespace Go.Proofs.YtoagdmglchccnaaGreatDoor.V7
open Go.RowKit
set_option linter.unusedVariables false
set_option linter.unusedSimpArgs false
/-- A value as the program has it. -/
def vv (k i : Int) (s : List UInt8) : Value := .agg #[.int .i64 k, .int .i64 i, .string (str s)]
theorem str_e : (ByteArray.mk #[]) = str [] := rfl
theorem refInt_any (n : Int) (w : World) :
    Calls Tryz.prog 75 #[.int .i64 n] w fun e w' => e = .returned (.agg #[.int .i64 2, .int .i64 n, .string (str [])]) ∧ Below w.heap.size w w' := by
  go_enter Tryz.func75, Tryz.ntmps75
  go_wp2_with fail
  refine bodyPost_ret (v := .agg #[.int .i64 2, .int .i64 n, .string (str [])]) (by simp [results, Tryz.results75, go_sem, str_e]) rfl ⟨rfl, ?_⟩
  exact (Below.refl _ _).alloc (Nat.le_refl _) _
end Go.Proofs.YtoagdmglchccnaaGreatDoor.V7
namespace Go.Proofs.YtoagdmglchccnaaGreatDoor.V7
open Go.RowKit
set_option linter.unusedVariables false
set_option linter.unusedSimpArgs false
set_option maxRecDepth 100000 in
set_option maxHeartbeats 400000 in
theorem refMay_any (k i : Int) (s : List UInt8) (w : World) (hs : s.length ≤ maxLen) :
    Calls Tryz.prog 112 #[.agg #[.int .i64 k, .int .i64 i, .string (str s)]] w fun e w' => e = .returned (.bool (mayB ⟨k, i, s⟩)) ∧ Below w.heap.size w w' := by
  unfold maxLen at hs
  have bel : ∀ o, Below w.heap.size w (w.alloc o) := fun o => (Below.refl _ _).alloc (Nat.le_refl _) o
  have BEL := Lib.hid bel
  clear bel
  have hz : (str s).size = s.length := str_size s
  rcases (show (k = 0) ∨ (k = 1) ∨ (k = 2) ∨ (k = 3) ∨ ((k == 0) = false ∧ (k == 1) = false ∧ (k == 2) = false ∧ (k == 3) = false) by
    by_cases h0 : k = 0
    · exact .inl h0
    · by_cases h1 : k = 1
      · exact .inr (.inl h1)
      · by_cases h2 : k = 2
        · exact .inr (.inr (.inl h2))
        · by_cases h3 : k = 3
          · exact .inr (.inr (.inr (.inl h3)))
          · exact .inr (.inr (.inr (.inr ⟨by simpa using h0, by simpa using h1, by simpa using h2, by simpa using h3⟩)))) with rfl | rfl | rfl | rfl | ⟨h0, h1, h2, h3⟩
  all_goals
    go_enter Tryz.func112, Tryz.ntmps112
    go_wp2_with fail
    all_goals
      go_ret
      refine ⟨ret_bool ?_, BEL.out _⟩
      clear BEL hz
      rw [Bool.eq_iff_iff]
      simp only [mayB, str_tl, decide_eq_true_eq, List.isEmpty_iff]
      try simp only [bne_iff_ne, beq_iff_eq, bne_eq_false_iff_eq, beq_eq_false_iff_ne, ne_eq, Bool.false_eq_true, false_iff, not_or, not_and] at *
      first | omega | (simp_all; done) | (simp_all [str_tl]; done) | (simp_all [str_tl]; omega)
end Go.Proofs.YtoagdmglchccnaaGreatDoor.V7
