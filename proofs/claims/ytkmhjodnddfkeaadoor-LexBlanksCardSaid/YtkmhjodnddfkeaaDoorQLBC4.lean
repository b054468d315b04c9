/- Lex: the small calls. -/
import Derived.Test.YtkmhjodnddfkeaaDoorQLBC2
import Derived.Test.YtkmhjodnddfkeaaDoorQLBC3
import Derived.Test.YtkmhjodnddfkeaaDoorProg
import Derived.Lib.Hide
namespace Go.Proofs.YtkmhjodnddfkeaaDoor
open Go Go.RowKit
set_option linter.unusedVariables false
set_option linter.unusedSimpArgs false
set_option maxRecDepth 100000
theorem str_tl (l : List UInt8) : (str l).toList = l := by unfold str; simp
theorem ret_bool {a b : Bool} (h : a = b) : Ending.returned (.bool a) = Ending.returned (.bool b) := by rw [h]
theorem ret_str {a b : ByteArray} (h : a = b) : Ending.returned (.string a) = Ending.returned (.string b) := by rw [h]
theorem str_byte (l : List UInt8) (k : Nat) (h : k < (str l).size) : (str l)[k]'h = l.getD k 0 := by
  have h' : k < l.length := by rwa [str_size] at h
  show l.toArray[k] = _
  simp [List.getD, h']
theorem str_extract (l : List UInt8) (i j : Nat) : (str l).extract i j = str ((l.drop i).take (j - i)) := by
  apply ByteArray.ext
  simp [str, ByteArray.data_extract]
theorem eq_str (a b : List UInt8) : ((str a).toList == (str b).toList) = decide (a = b) := by
  rw [str_tl, str_tl]
  by_cases h : a = b
  · subst h; simp
  · simp [h]
/-- A call hands back this, whatever the world, and leaves it. -/
def PureW (f : Nat) (args : Array Value) (v : Value) : Prop := ∀ w, Calls Tryd.prog f args w fun e w' => e = .returned v ∧ w = w'
theorem PureW.at {f : Nat} {args : Array Value} {v : Value} (h : PureW f args v) (w : World) : Calls Tryd.prog f args w fun e w' => e = .returned v ∧ w = w' := h w
theorem letter_any (c : UInt8) : PureW 21 #[.int .u8 (c.toNat : Int)] (.bool (letB c)) := by
  intro w
  unfold letB
  have hm : c.toNat < 256 := c.toNat_lt
  generalize c.toNat = m at *
  rcases (show m < 95 ∨ m = 95 ∨ m = 96 ∨ (97 ≤ m ∧ m ≤ 122) ∨ 122 < m by omega) with h | rfl | rfl | ⟨h, h'⟩ | h
  all_goals
    go_enter Tryd.func21, Tryd.ntmps21
    go_wp2_with fail
    all_goals
      go_ret
      refine ⟨ret_bool ?_, rfl⟩
      first | rfl | (rw [Bool.eq_iff_iff]; simp; omega)
theorem digit_any (c : UInt8) : PureW 23 #[.int .u8 (c.toNat : Int)] (.bool (digB c)) := by
  intro w
  unfold digB
  have hm : c.toNat < 256 := c.toNat_lt
  generalize c.toNat = m at *
  rcases (show m < 48 ∨ (48 ≤ m ∧ m ≤ 57) ∨ 57 < m by omega) with h | ⟨h, h'⟩ | h
  all_goals
    go_enter Tryd.func23, Tryd.ntmps23
    go_wp2_with fail
    all_goals
      go_ret
      refine ⟨ret_bool ?_, rfl⟩
      first | rfl | (rw [Bool.eq_iff_iff]; simp; omega)
theorem nameByte_any (c : UInt8) : PureW 29 #[.int .u8 (c.toNat : Int)] (.bool (nmB c)) := by
  intro w
  have HL := letter_any c
  have HD := digit_any c
  unfold nmB
  generalize letB c = L at *
  generalize digB c = D at *
  cases L with
  | true =>
    go_enter Tryd.func29, Tryd.ntmps29
    go_wp2_with ((with_reducible refine (PureW.at HL _).mono ?_); rintro e w1 ⟨rfl, rfl⟩)
    go_ret
    exact ⟨rfl, rfl⟩
  | false =>
    go_enter Tryd.func29, Tryd.ntmps29
    go_wp2_with (first | ((with_reducible refine (PureW.at HL _).mono ?_); rintro e w1 ⟨rfl, rfl⟩) | ((with_reducible refine (PureW.at HD _).mono ?_); rintro e w1 ⟨rfl, rfl⟩))
    go_ret
    exact ⟨rfl, rfl⟩
theorem notNl_any (c : UInt8) : PureW 20 #[.int .u8 (c.toNat : Int)] (.bool (notNl c)) := by
  intro w
  unfold notNl
  generalize c.toNat = m at *
  by_cases h : m = 10
  · subst h
    go_enter Tryd.func20, Tryd.ntmps20
    go_wp2_with fail
    go_ret
    exact ⟨rfl, rfl⟩
  · have h1 : ((m : Int) != 10) = true := by simp; omega
    go_enter Tryd.func20, Tryd.ntmps20
    go_wp2_with fail
    go_ret
    exact ⟨ret_bool (by simp [h]), rfl⟩

theorem tl_eq (s l : List UInt8) : ((str s).toList == l) = decide (s = l) := by
  rw [str_tl]
  by_cases h : s = l
  · subst h; simp
  · simp [h]
set_option maxHeartbeats 4000000 in
theorem isSign_any (s : List UInt8) : PureW 33 #[.string (str s)] (.bool (signB s)) := by
  intro w
  by_cases h : s ∈ sign2 ++ sign1
  · have hb : signB s = true := by unfold signB; simpa using h
    rw [hb]
    simp only [sign2, sign1, List.cons_append, List.nil_append, List.mem_cons, List.not_mem_nil, or_false] at h
    clear hb
    rcases h with rfl | rfl | rfl | rfl | rfl | rfl | rfl | rfl | rfl | rfl | rfl | rfl | rfl | rfl | rfl | rfl | rfl | rfl | rfl
    · have n0 : ((str [61, 61]).toList == [61, 61]) = true := by rw [tl_eq]; decide
      generalize str [61, 61] = S at *
      go_enter Tryd.func33, Tryd.ntmps33
      go_wp2_with fail
      go_ret
      exact ⟨rfl, rfl⟩
    · have n0 : ((str [33, 61]).toList == [61, 61]) = false := by rw [tl_eq]; decide
      have n1 : ((str [33, 61]).toList == [33, 61]) = true := by rw [tl_eq]; decide
      generalize str [33, 61] = S at *
      go_enter Tryd.func33, Tryd.ntmps33
      go_wp2_with fail
      go_ret
      exact ⟨rfl, rfl⟩
    · have n0 : ((str [60, 61]).toList == [61, 61]) = false := by rw [tl_eq]; decide
      have n1 : ((str [60, 61]).toList == [33, 61]) = false := by rw [tl_eq]; decide
      have n2 : ((str [60, 61]).toList == [60, 61]) = true := by rw [tl_eq]; decide
      generalize str [60, 61] = S at *
      go_enter Tryd.func33, Tryd.ntmps33
      go_wp2_with fail
      go_ret
      exact ⟨rfl, rfl⟩
    · have n0 : ((str [62, 61]).toList == [61, 61]) = false := by rw [tl_eq]; decide
      have n1 : ((str [62, 61]).toList == [33, 61]) = false := by rw [tl_eq]; decide
      have n2 : ((str [62, 61]).toList == [60, 61]) = false := by rw [tl_eq]; decide
      have n3 : ((str [62, 61]).toList == [62, 61]) = true := by rw [tl_eq]; decide
      generalize str [62, 61] = S at *
      go_enter Tryd.func33, Tryd.ntmps33
      go_wp2_with fail
      go_ret
      exact ⟨rfl, rfl⟩
    · have n0 : ((str [46, 46]).toList == [61, 61]) = false := by rw [tl_eq]; decide
      have n1 : ((str [46, 46]).toList == [33, 61]) = false := by rw [tl_eq]; decide
      have n2 : ((str [46, 46]).toList == [60, 61]) = false := by rw [tl_eq]; decide
      have n3 : ((str [46, 46]).toList == [62, 61]) = false := by rw [tl_eq]; decide
      have n4 : ((str [46, 46]).toList == [46, 46]) = true := by rw [tl_eq]; decide
      generalize str [46, 46] = S at *
      go_enter Tryd.func33, Tryd.ntmps33
      go_wp2_with fail
      go_ret
      exact ⟨rfl, rfl⟩
    · have n0 : ((str [40]).toList == [61, 61]) = false := by rw [tl_eq]; decide
      have n1 : ((str [40]).toList == [33, 61]) = false := by rw [tl_eq]; decide
      have n2 : ((str [40]).toList == [60, 61]) = false := by rw [tl_eq]; decide
      have n3 : ((str [40]).toList == [62, 61]) = false := by rw [tl_eq]; decide
      have n4 : ((str [40]).toList == [46, 46]) = false := by rw [tl_eq]; decide
      have n5 : ((str [40]).toList == [40]) = true := by rw [tl_eq]; decide
      generalize str [40] = S at *
      go_enter Tryd.func33, Tryd.ntmps33
      go_wp2_with fail
      go_ret
      exact ⟨rfl, rfl⟩
    · have n0 : ((str [41]).toList == [61, 61]) = false := by rw [tl_eq]; decide
      have n1 : ((str [41]).toList == [33, 61]) = false := by rw [tl_eq]; decide
      have n2 : ((str [41]).toList == [60, 61]) = false := by rw [tl_eq]; decide
      have n3 : ((str [41]).toList == [62, 61]) = false := by rw [tl_eq]; decide
      have n4 : ((str [41]).toList == [46, 46]) = false := by rw [tl_eq]; decide
      have n5 : ((str [41]).toList == [40]) = false := by rw [tl_eq]; decide
      have n6 : ((str [41]).toList == [41]) = true := by rw [tl_eq]; decide
      generalize str [41] = S at *
      go_enter Tryd.func33, Tryd.ntmps33
      go_wp2_with fail
      go_ret
      exact ⟨rfl, rfl⟩
    · have n0 : ((str [123]).toList == [61, 61]) = false := by rw [tl_eq]; decide
      have n1 : ((str [123]).toList == [33, 61]) = false := by rw [tl_eq]; decide
      have n2 : ((str [123]).toList == [60, 61]) = false := by rw [tl_eq]; decide
      have n3 : ((str [123]).toList == [62, 61]) = false := by rw [tl_eq]; decide
      have n4 : ((str [123]).toList == [46, 46]) = false := by rw [tl_eq]; decide
      have n5 : ((str [123]).toList == [40]) = false := by rw [tl_eq]; decide
      have n6 : ((str [123]).toList == [41]) = false := by rw [tl_eq]; decide
      have n7 : ((str [123]).toList == [123]) = true := by rw [tl_eq]; decide
      generalize str [123] = S at *
      go_enter Tryd.func33, Tryd.ntmps33
      go_wp2_with fail
      go_ret
      exact ⟨rfl, rfl⟩
    · have n0 : ((str [125]).toList == [61, 61]) = false := by rw [tl_eq]; decide
      have n1 : ((str [125]).toList == [33, 61]) = false := by rw [tl_eq]; decide
      have n2 : ((str [125]).toList == [60, 61]) = false := by rw [tl_eq]; decide
      have n3 : ((str [125]).toList == [62, 61]) = false := by rw [tl_eq]; decide
      have n4 : ((str [125]).toList == [46, 46]) = false := by rw [tl_eq]; decide
      have n5 : ((str [125]).toList == [40]) = false := by rw [tl_eq]; decide
      have n6 : ((str [125]).toList == [41]) = false := by rw [tl_eq]; decide
      have n7 : ((str [125]).toList == [123]) = false := by rw [tl_eq]; decide
      have n8 : ((str [125]).toList == [125]) = true := by rw [tl_eq]; decide
      generalize str [125] = S at *
      go_enter Tryd.func33, Tryd.ntmps33
      go_wp2_with fail
      go_ret
      exact ⟨rfl, rfl⟩
    · have n0 : ((str [44]).toList == [61, 61]) = false := by rw [tl_eq]; decide
      have n1 : ((str [44]).toList == [33, 61]) = false := by rw [tl_eq]; decide
      have n2 : ((str [44]).toList == [60, 61]) = false := by rw [tl_eq]; decide
      have n3 : ((str [44]).toList == [62, 61]) = false := by rw [tl_eq]; decide
      have n4 : ((str [44]).toList == [46, 46]) = false := by rw [tl_eq]; decide
      have n5 : ((str [44]).toList == [40]) = false := by rw [tl_eq]; decide
      have n6 : ((str [44]).toList == [41]) = false := by rw [tl_eq]; decide
      have n7 : ((str [44]).toList == [123]) = false := by rw [tl_eq]; decide
      have n8 : ((str [44]).toList == [125]) = false := by rw [tl_eq]; decide
      have n9 : ((str [44]).toList == [44]) = true := by rw [tl_eq]; decide
      generalize str [44] = S at *
      go_enter Tryd.func33, Tryd.ntmps33
      go_wp2_with fail
      go_ret
      exact ⟨rfl, rfl⟩
    · have n0 : ((str [59]).toList == [61, 61]) = false := by rw [tl_eq]; decide
      have n1 : ((str [59]).toList == [33, 61]) = false := by rw [tl_eq]; decide
      have n2 : ((str [59]).toList == [60, 61]) = false := by rw [tl_eq]; decide
      have n3 : ((str [59]).toList == [62, 61]) = false := by rw [tl_eq]; decide
      have n4 : ((str [59]).toList == [46, 46]) = false := by rw [tl_eq]; decide
      have n5 : ((str [59]).toList == [40]) = false := by rw [tl_eq]; decide
      have n6 : ((str [59]).toList == [41]) = false := by rw [tl_eq]; decide
      have n7 : ((str [59]).toList == [123]) = false := by rw [tl_eq]; decide
      have n8 : ((str [59]).toList == [125]) = false := by rw [tl_eq]; decide
      have n9 : ((str [59]).toList == [44]) = false := by rw [tl_eq]; decide
      have n10 : ((str [59]).toList == [59]) = true := by rw [tl_eq]; decide
      generalize str [59] = S at *
      go_enter Tryd.func33, Tryd.ntmps33
      go_wp2_with fail
      go_ret
      exact ⟨rfl, rfl⟩
    · have n0 : ((str [61]).toList == [61, 61]) = false := by rw [tl_eq]; decide
      have n1 : ((str [61]).toList == [33, 61]) = false := by rw [tl_eq]; decide
      have n2 : ((str [61]).toList == [60, 61]) = false := by rw [tl_eq]; decide
      have n3 : ((str [61]).toList == [62, 61]) = false := by rw [tl_eq]; decide
      have n4 : ((str [61]).toList == [46, 46]) = false := by rw [tl_eq]; decide
      have n5 : ((str [61]).toList == [40]) = false := by rw [tl_eq]; decide
      have n6 : ((str [61]).toList == [41]) = false := by rw [tl_eq]; decide
      have n7 : ((str [61]).toList == [123]) = false := by rw [tl_eq]; decide
      have n8 : ((str [61]).toList == [125]) = false := by rw [tl_eq]; decide
      have n9 : ((str [61]).toList == [44]) = false := by rw [tl_eq]; decide
      have n10 : ((str [61]).toList == [59]) = false := by rw [tl_eq]; decide
      have n11 : ((str [61]).toList == [61]) = true := by rw [tl_eq]; decide
      generalize str [61] = S at *
      go_enter Tryd.func33, Tryd.ntmps33
      go_wp2_with fail
      go_ret
      exact ⟨rfl, rfl⟩
    · have n0 : ((str [60]).toList == [61, 61]) = false := by rw [tl_eq]; decide
      have n1 : ((str [60]).toList == [33, 61]) = false := by rw [tl_eq]; decide
      have n2 : ((str [60]).toList == [60, 61]) = false := by rw [tl_eq]; decide
      have n3 : ((str [60]).toList == [62, 61]) = false := by rw [tl_eq]; decide
      have n4 : ((str [60]).toList == [46, 46]) = false := by rw [tl_eq]; decide
      have n5 : ((str [60]).toList == [40]) = false := by rw [tl_eq]; decide
      have n6 : ((str [60]).toList == [41]) = false := by rw [tl_eq]; decide
      have n7 : ((str [60]).toList == [123]) = false := by rw [tl_eq]; decide
      have n8 : ((str [60]).toList == [125]) = false := by rw [tl_eq]; decide
      have n9 : ((str [60]).toList == [44]) = false := by rw [tl_eq]; decide
      have n10 : ((str [60]).toList == [59]) = false := by rw [tl_eq]; decide
      have n11 : ((str [60]).toList == [61]) = false := by rw [tl_eq]; decide
      have n12 : ((str [60]).toList == [60]) = true := by rw [tl_eq]; decide
      generalize str [60] = S at *
      go_enter Tryd.func33, Tryd.ntmps33
      go_wp2_with fail
      go_ret
      exact ⟨rfl, rfl⟩
    · have n0 : ((str [62]).toList == [61, 61]) = false := by rw [tl_eq]; decide
      have n1 : ((str [62]).toList == [33, 61]) = false := by rw [tl_eq]; decide
      have n2 : ((str [62]).toList == [60, 61]) = false := by rw [tl_eq]; decide
      have n3 : ((str [62]).toList == [62, 61]) = false := by rw [tl_eq]; decide
      have n4 : ((str [62]).toList == [46, 46]) = false := by rw [tl_eq]; decide
      have n5 : ((str [62]).toList == [40]) = false := by rw [tl_eq]; decide
      have n6 : ((str [62]).toList == [41]) = false := by rw [tl_eq]; decide
      have n7 : ((str [62]).toList == [123]) = false := by rw [tl_eq]; decide
      have n8 : ((str [62]).toList == [125]) = false := by rw [tl_eq]; decide
      have n9 : ((str [62]).toList == [44]) = false := by rw [tl_eq]; decide
      have n10 : ((str [62]).toList == [59]) = false := by rw [tl_eq]; decide
      have n11 : ((str [62]).toList == [61]) = false := by rw [tl_eq]; decide
      have n12 : ((str [62]).toList == [60]) = false := by rw [tl_eq]; decide
      have n13 : ((str [62]).toList == [62]) = true := by rw [tl_eq]; decide
      generalize str [62] = S at *
      go_enter Tryd.func33, Tryd.ntmps33
      go_wp2_with fail
      go_ret
      exact ⟨rfl, rfl⟩
    · have n0 : ((str [43]).toList == [61, 61]) = false := by rw [tl_eq]; decide
      have n1 : ((str [43]).toList == [33, 61]) = false := by rw [tl_eq]; decide
      have n2 : ((str [43]).toList == [60, 61]) = false := by rw [tl_eq]; decide
      have n3 : ((str [43]).toList == [62, 61]) = false := by rw [tl_eq]; decide
      have n4 : ((str [43]).toList == [46, 46]) = false := by rw [tl_eq]; decide
      have n5 : ((str [43]).toList == [40]) = false := by rw [tl_eq]; decide
      have n6 : ((str [43]).toList == [41]) = false := by rw [tl_eq]; decide
      have n7 : ((str [43]).toList == [123]) = false := by rw [tl_eq]; decide
      have n8 : ((str [43]).toList == [125]) = false := by rw [tl_eq]; decide
      have n9 : ((str [43]).toList == [44]) = false := by rw [tl_eq]; decide
      have n10 : ((str [43]).toList == [59]) = false := by rw [tl_eq]; decide
      have n11 : ((str [43]).toList == [61]) = false := by rw [tl_eq]; decide
      have n12 : ((str [43]).toList == [60]) = false := by rw [tl_eq]; decide
      have n13 : ((str [43]).toList == [62]) = false := by rw [tl_eq]; decide
      have n14 : ((str [43]).toList == [43]) = true := by rw [tl_eq]; decide
      generalize str [43] = S at *
      go_enter Tryd.func33, Tryd.ntmps33
      go_wp2_with fail
      go_ret
      exact ⟨rfl, rfl⟩
    · have n0 : ((str [45]).toList == [61, 61]) = false := by rw [tl_eq]; decide
      have n1 : ((str [45]).toList == [33, 61]) = false := by rw [tl_eq]; decide
      have n2 : ((str [45]).toList == [60, 61]) = false := by rw [tl_eq]; decide
      have n3 : ((str [45]).toList == [62, 61]) = false := by rw [tl_eq]; decide
      have n4 : ((str [45]).toList == [46, 46]) = false := by rw [tl_eq]; decide
      have n5 : ((str [45]).toList == [40]) = false := by rw [tl_eq]; decide
      have n6 : ((str [45]).toList == [41]) = false := by rw [tl_eq]; decide
      have n7 : ((str [45]).toList == [123]) = false := by rw [tl_eq]; decide
      have n8 : ((str [45]).toList == [125]) = false := by rw [tl_eq]; decide
      have n9 : ((str [45]).toList == [44]) = false := by rw [tl_eq]; decide
      have n10 : ((str [45]).toList == [59]) = false := by rw [tl_eq]; decide
      have n11 : ((str [45]).toList == [61]) = false := by rw [tl_eq]; decide
      have n12 : ((str [45]).toList == [60]) = false := by rw [tl_eq]; decide
      have n13 : ((str [45]).toList == [62]) = false := by rw [tl_eq]; decide
      have n14 : ((str [45]).toList == [43]) = false := by rw [tl_eq]; decide
      have n15 : ((str [45]).toList == [45]) = true := by rw [tl_eq]; decide
      generalize str [45] = S at *
      go_enter Tryd.func33, Tryd.ntmps33
      go_wp2_with fail
      go_ret
      exact ⟨rfl, rfl⟩
    · have n0 : ((str [42]).toList == [61, 61]) = false := by rw [tl_eq]; decide
      have n1 : ((str [42]).toList == [33, 61]) = false := by rw [tl_eq]; decide
      have n2 : ((str [42]).toList == [60, 61]) = false := by rw [tl_eq]; decide
      have n3 : ((str [42]).toList == [62, 61]) = false := by rw [tl_eq]; decide
      have n4 : ((str [42]).toList == [46, 46]) = false := by rw [tl_eq]; decide
      have n5 : ((str [42]).toList == [40]) = false := by rw [tl_eq]; decide
      have n6 : ((str [42]).toList == [41]) = false := by rw [tl_eq]; decide
      have n7 : ((str [42]).toList == [123]) = false := by rw [tl_eq]; decide
      have n8 : ((str [42]).toList == [125]) = false := by rw [tl_eq]; decide
      have n9 : ((str [42]).toList == [44]) = false := by rw [tl_eq]; decide
      have n10 : ((str [42]).toList == [59]) = false := by rw [tl_eq]; decide
      have n11 : ((str [42]).toList == [61]) = false := by rw [tl_eq]; decide
      have n12 : ((str [42]).toList == [60]) = false := by rw [tl_eq]; decide
      have n13 : ((str [42]).toList == [62]) = false := by rw [tl_eq]; decide
      have n14 : ((str [42]).toList == [43]) = false := by rw [tl_eq]; decide
      have n15 : ((str [42]).toList == [45]) = false := by rw [tl_eq]; decide
      have n16 : ((str [42]).toList == [42]) = true := by rw [tl_eq]; decide
      generalize str [42] = S at *
      go_enter Tryd.func33, Tryd.ntmps33
      go_wp2_with fail
      go_ret
      exact ⟨rfl, rfl⟩
    · have n0 : ((str [47]).toList == [61, 61]) = false := by rw [tl_eq]; decide
      have n1 : ((str [47]).toList == [33, 61]) = false := by rw [tl_eq]; decide
      have n2 : ((str [47]).toList == [60, 61]) = false := by rw [tl_eq]; decide
      have n3 : ((str [47]).toList == [62, 61]) = false := by rw [tl_eq]; decide
      have n4 : ((str [47]).toList == [46, 46]) = false := by rw [tl_eq]; decide
      have n5 : ((str [47]).toList == [40]) = false := by rw [tl_eq]; decide
      have n6 : ((str [47]).toList == [41]) = false := by rw [tl_eq]; decide
      have n7 : ((str [47]).toList == [123]) = false := by rw [tl_eq]; decide
      have n8 : ((str [47]).toList == [125]) = false := by rw [tl_eq]; decide
      have n9 : ((str [47]).toList == [44]) = false := by rw [tl_eq]; decide
      have n10 : ((str [47]).toList == [59]) = false := by rw [tl_eq]; decide
      have n11 : ((str [47]).toList == [61]) = false := by rw [tl_eq]; decide
      have n12 : ((str [47]).toList == [60]) = false := by rw [tl_eq]; decide
      have n13 : ((str [47]).toList == [62]) = false := by rw [tl_eq]; decide
      have n14 : ((str [47]).toList == [43]) = false := by rw [tl_eq]; decide
      have n15 : ((str [47]).toList == [45]) = false := by rw [tl_eq]; decide
      have n16 : ((str [47]).toList == [42]) = false := by rw [tl_eq]; decide
      have n17 : ((str [47]).toList == [47]) = true := by rw [tl_eq]; decide
      generalize str [47] = S at *
      go_enter Tryd.func33, Tryd.ntmps33
      go_wp2_with fail
      go_ret
      exact ⟨rfl, rfl⟩
    · have n0 : ((str [37]).toList == [61, 61]) = false := by rw [tl_eq]; decide
      have n1 : ((str [37]).toList == [33, 61]) = false := by rw [tl_eq]; decide
      have n2 : ((str [37]).toList == [60, 61]) = false := by rw [tl_eq]; decide
      have n3 : ((str [37]).toList == [62, 61]) = false := by rw [tl_eq]; decide
      have n4 : ((str [37]).toList == [46, 46]) = false := by rw [tl_eq]; decide
      have n5 : ((str [37]).toList == [40]) = false := by rw [tl_eq]; decide
      have n6 : ((str [37]).toList == [41]) = false := by rw [tl_eq]; decide
      have n7 : ((str [37]).toList == [123]) = false := by rw [tl_eq]; decide
      have n8 : ((str [37]).toList == [125]) = false := by rw [tl_eq]; decide
      have n9 : ((str [37]).toList == [44]) = false := by rw [tl_eq]; decide
      have n10 : ((str [37]).toList == [59]) = false := by rw [tl_eq]; decide
      have n11 : ((str [37]).toList == [61]) = false := by rw [tl_eq]; decide
      have n12 : ((str [37]).toList == [60]) = false := by rw [tl_eq]; decide
      have n13 : ((str [37]).toList == [62]) = false := by rw [tl_eq]; decide
      have n14 : ((str [37]).toList == [43]) = false := by rw [tl_eq]; decide
      have n15 : ((str [37]).toList == [45]) = false := by rw [tl_eq]; decide
      have n16 : ((str [37]).toList == [42]) = false := by rw [tl_eq]; decide
      have n17 : ((str [37]).toList == [47]) = false := by rw [tl_eq]; decide
      have n18 : ((str [37]).toList == [37]) = true := by rw [tl_eq]; decide
      generalize str [37] = S at *
      go_enter Tryd.func33, Tryd.ntmps33
      go_wp2_with fail
      go_ret
      exact ⟨rfl, rfl⟩
  · have hb : signB s = false := by unfold signB; simpa using h
    rw [hb]
    have no : ∀ l : List UInt8, l ∈ sign2 ++ sign1 → ((str s).toList == l) = false := fun l hl => by rw [tl_eq, decide_eq_false_iff_not]; rintro rfl; exact h hl
    have n0 : ((str s).toList == [61, 61]) = false := no [61, 61] (by decide)
    have n1 : ((str s).toList == [33, 61]) = false := no [33, 61] (by decide)
    have n2 : ((str s).toList == [60, 61]) = false := no [60, 61] (by decide)
    have n3 : ((str s).toList == [62, 61]) = false := no [62, 61] (by decide)
    have n4 : ((str s).toList == [46, 46]) = false := no [46, 46] (by decide)
    have n5 : ((str s).toList == [40]) = false := no [40] (by decide)
    have n6 : ((str s).toList == [41]) = false := no [41] (by decide)
    have n7 : ((str s).toList == [123]) = false := no [123] (by decide)
    have n8 : ((str s).toList == [125]) = false := no [125] (by decide)
    have n9 : ((str s).toList == [44]) = false := no [44] (by decide)
    have n10 : ((str s).toList == [59]) = false := no [59] (by decide)
    have n11 : ((str s).toList == [61]) = false := no [61] (by decide)
    have n12 : ((str s).toList == [60]) = false := no [60] (by decide)
    have n13 : ((str s).toList == [62]) = false := no [62] (by decide)
    have n14 : ((str s).toList == [43]) = false := no [43] (by decide)
    have n15 : ((str s).toList == [45]) = false := no [45] (by decide)
    have n16 : ((str s).toList == [42]) = false := no [42] (by decide)
    have n17 : ((str s).toList == [47]) = false := no [47] (by decide)
    have n18 : ((str s).toList == [37]) = false := no [37] (by decide)
    clear h hb no
    generalize str s = S at *
    go_enter Tryd.func33, Tryd.ntmps33
    go_wp2_with fail
    go_ret
    exact ⟨rfl, rfl⟩
end Go.Proofs.YtkmhjodnddfkeaaDoor
