/- Values: the small ones. -/
import Derived.Test.YtcehgfganjdghaaDoorQVTC5
namespace Go.Proofs.YtcehgfganjdghaaDoor.V7
open Go.RowKit
set_option linter.unusedVariables false
set_option linter.unusedSimpArgs false
/-- A value as the program has it. -/
def vv (k i : Int) (s : List UInt8) : Value := .agg #[.int .i64 k, .int .i64 i, .string (str s)]
theorem str_cut (l : List UInt8) (n : Nat) : (str l).extract 0 n = str (l.take n) := by
  apply ByteArray.ext
  simp [str, ByteArray.data_extract]
theorem str_e : (ByteArray.mk #[]) = str [] := rfl
theorem over_any (b : Bool) (w : World) :
    Calls Tryd.prog 98 #[.bool b] w fun e w' => e = .returned (.int .i64 (if b then 8 else 0)) ∧ w = w' := by
  cases b
  all_goals
    go_enter Tryd.func98, Tryd.ntmps98
    go_wp2_with fail
    go_ret
    exact ⟨rfl, rfl⟩
theorem int_any (n : Int) (w : World) :
    Calls Tryd.prog 70 #[.int .i64 n] w fun e w' => e = .returned (.agg #[.int .i64 2, .int .i64 n, .string (str [])]) ∧ Below w.heap.size w w' := by
  go_enter Tryd.func70, Tryd.ntmps70
  go_wp2_with fail
  refine bodyPost_ret (v := .agg #[.int .i64 2, .int .i64 n, .string (str [])]) (by simp [results, Tryd.results70, go_sem, str_e]) rfl ⟨rfl, ?_⟩
  exact (Below.refl _ _).alloc (Nat.le_refl _) _
theorem refInt_any (n : Int) (w : World) :
    Calls Tryd.prog 44 #[.int .i64 n] w fun e w' => e = .returned (.agg #[.int .i64 2, .int .i64 n, .string (str [])]) ∧ Below w.heap.size w w' := by
  go_enter Tryd.func44, Tryd.ntmps44
  go_wp2_with fail
  refine bodyPost_ret (v := .agg #[.int .i64 2, .int .i64 n, .string (str [])]) (by simp [results, Tryd.results44, go_sem, str_e]) rfl ⟨rfl, ?_⟩
  exact (Below.refl _ _).alloc (Nat.le_refl _) _
theorem bool_any (b : Bool) (w : World) :
    Calls Tryd.prog 71 #[.bool b] w fun e w' => e = .returned (.agg #[.int .i64 1, .int .i64 (if b then 1 else 0), .string (str [])]) ∧ Below w.heap.size w w' := by
  cases b
  all_goals
    go_enter Tryd.func71, Tryd.ntmps71
    go_wp2_with fail
    refine bodyPost_ret (v := .agg #[.int .i64 1, .int .i64 _, .string (str [])]) (by simp [results, Tryd.results71, go_sem, str_e]) rfl ⟨rfl, ?_⟩
    exact ((Below.refl _ _).alloc (Nat.le_refl _) _).alloc (by simp) _
theorem nil_any (w : World) :
    Calls Tryd.prog 79 #[] w fun e w' => e = .returned (.agg #[.int .i64 0, .int .i64 0, .string (str [])]) ∧ Below w.heap.size w w' := by
  go_enter Tryd.func79, Tryd.ntmps79
  go_wp2_with fail
  refine bodyPost_ret (v := .agg #[.int .i64 0, .int .i64 0, .string (str [])]) (by simp [results, Tryd.results79, go_sem, str_e]) rfl ⟨rfl, ?_⟩
  exact (Below.refl _ _).alloc (Nat.le_refl _) _
theorem text_short (s : List UInt8) (w : World) (h : s.length ≤ 64) :
    Calls Tryd.prog 69 #[.string (str s)] w fun e w' => e = .returned (.tuple #[.agg #[.int .i64 3, .int .i64 0, .string (str s)], .int .i64 0]) ∧ Below w.heap.size w w' := by
  have hz : (str s).size = s.length := str_size s
  have hz2 : (str s).size ≤ 64 := by omega
  clear hz h
  go_enter Tryd.func69, Tryd.ntmps69
  go_wp2_with fail
  refine bodyPost_ret (v := .tuple #[.agg #[.int .i64 3, .int .i64 0, .string (str s)], .int .i64 0]) (by simp [results, Tryd.results69, go_sem, str_e]) rfl ⟨rfl, ?_⟩
  exact (Below.refl _ _).alloc (Nat.le_refl _) _
theorem text_long (s : List UInt8) (w : World) (h : 64 < s.length) (hm : s.length ≤ maxLen) :
    Calls Tryd.prog 69 #[.string (str s)] w fun e w' => e = .returned (.tuple #[.agg #[.int .i64 0, .int .i64 0, .string (str [])], .int .i64 5]) ∧ Below w.heap.size w w' := by
  unfold maxLen at hm
  have hz : (str s).size = s.length := str_size s
  have hz2 : 64 < (str s).size := by omega
  have hz3 : (str s).size ≤ 9223372036854775807 := by omega
  clear hz h hm
  go_enter Tryd.func69, Tryd.ntmps69
  go_wp2_with fail
  refine bodyPost_ret (v := .tuple #[.agg #[.int .i64 0, .int .i64 0, .string (str [])], .int .i64 5]) (by simp [results, Tryd.results69, go_sem, str_e]) rfl ⟨rfl, ?_⟩
  exact (Below.refl _ _).alloc (Nat.le_refl _) _
theorem few_any (k i : Int) (s : List UInt8) (w : World) (hm : s.length ≤ maxLen) :
    Calls Tryd.prog 36 #[.agg #[.int .i64 k, .int .i64 i, .string (str s)]] w fun e w' => e = .returned (.agg #[.int .i64 k, .int .i64 i, .string (str (s.take 200))]) ∧ Below w.heap.size w w' := by
  unfold maxLen at hm
  have hz : (str s).size = s.length := str_size s
  have hz3 : (str s).size ≤ 9223372036854775807 := by omega
  by_cases h : s.length ≤ 200
  · rw [List.take_of_length_le h]
    have hz2 : (str s).size ≤ 200 := by omega
    clear hz h hm
    go_enter Tryd.func36, Tryd.ntmps36
    go_wp2_with fail
    refine bodyPost_ret (v := .agg #[.int .i64 k, .int .i64 i, .string (str s)]) (by simp [results, Tryd.results36, go_sem, str_e]) rfl ⟨rfl, ?_⟩
    exact ((Below.refl _ _).alloc (Nat.le_refl _) _).alloc (by simp) _
  · have hz2 : 200 < (str s).size := by omega
    clear hz h hm
    go_enter Tryd.func36, Tryd.ntmps36
    go_wp2_with fail
    refine bodyPost_ret (v := .agg #[.int .i64 k, .int .i64 i, .string (str (s.take 200))]) (by simp [results, Tryd.results36, go_sem, str_cut]) rfl ⟨rfl, ?_⟩
    exact ((Below.refl _ _).alloc (Nat.le_refl _) _).alloc (by simp) _
end Go.Proofs.YtcehgfganjdghaaDoor.V7
