/- Keys: the contracts of the small calls, whatever texts. Written by wip/tools/gen8f.py. -/
/- Values: what may be; the small ones. -/
/- Values: the small ones. -/
/- Values: what may be, by the document; how two are to one another. -/
import Derived.Test.YtbdfcgffkonbiaaGreatDoorQSSC9
import Derived.Test.YtbdfcgffkonbiaaGreatDoorQSSC2
import Derived.Test.YtbdfcgffkonbiaaGreatDoorQSSC5
import Derived.Test.YtbdfcgffkonbiaaGreatDoorProg
import Derived.WalkKit
import Derived.WalkSpells
import Derived.Test.YtbdfcgffkonbiaaGreatDoorQSSC7
import Derived.StillTailTactics
namespace Go.Proofs.YtbdfcgffkonbiaaGreatDoor
open Go Go.RowKit
set_option linter.unusedVariables false
set_option linter.unusedSimpArgs false
theorem ret_cast {f : Nat} {args : Array Value} {v v' : Value} (h : Ret f args v) (e : v = v') : Ret f args v' := e ▸ h
theorem bool_cast {f : Nat} {args : Array Value} {b b' : Bool} (h : Ret f args (.bool b)) (e : b = b') : Ret f args (.bool b') := e ▸ h
theorem emp_eq (l : List UInt8) : (str l).toList.isEmpty = decide (l = []) := by rw [str_tl]; cases l <;> rfl
theorem patB_nil : patB [] = true := rfl
theorem isB_pos {l : List UInt8} (h : l ≠ []) : isB l = patB l := by
  have : 0 < l.length := List.length_pos_iff.2 h
  simp [isB, this]
theorem pattern_any (l : List UInt8) (hl : l.length ≤ maxLen) : Ret 28 #[.string (str l)] (.bool (patB l)) := by
  refine bool_cast (pattern_g l _ _ (is_any l hl).ret (emp_eq l)) ?_
  by_cases h : l = []
  · subst h; rfl
  · rw [isB_pos h]; simp [h]
theorem refIs_any (l : List UInt8) (hl : l.length ≤ maxLen) : Ret 51 #[.string (str l)] (.bool (isB l)) := by
  have hz := str_size l
  have hl2 := hl
  unfold maxLen at hl2
  by_cases h : l = []
  · subst h
    intro w tab
    have hz0 : (str []).size = 0 := str_size []
    clear hz hl hl2
    rw [isB_nil]
    go_enter Tryz.func51, Tryz.ntmps51
    go_wp2_with fail
    go_ret
    exact ⟨rfl, Below.refl _ _⟩
  · have h0 : 0 < l.length := List.length_pos_iff.2 h
    exact bool_cast (refIs_g l (by omega) (by omega) _ (refPattern_any l hl).ret) (isB_pos h).symm
/-- The last byte turned by d, as it comes out. -/
theorem last_split {l : List UInt8} (h : l ≠ []) : ∃ p c, l = p ++ [c] := ⟨l.dropLast, l.getLast h, (List.dropLast_concat_getLast h).symm⟩
theorem shiftL_snoc (p : List UInt8) (c : UInt8) (d : Nat) : shiftL (p ++ [c]) d = p ++ [UInt8.ofNat (c.toNat + d)] := by
  have h : p ++ [c] ≠ [] := by simp
  unfold shiftL
  rw [if_neg h, List.dropLast_concat]
  simp
theorem snoc_ex (p : List UInt8) (c : UInt8) : (str (p ++ [c])).extract 0 p.length = str p := by rw [k8str_extract]; simp
theorem snoc_byte (p : List UInt8) (c : UInt8) : ∀ h : p.length < (str (p ++ [c])).size, ((str (p ++ [c]))[p.length]'h).toNat = c.toNat := fun h => by rw [k8str_byte]; simp
theorem snoc_ne (p : List UInt8) (c : UInt8) : (str (p ++ [c])).toList.isEmpty = false := by rw [emp_eq]; simp
theorem snoc_size (p : List UInt8) (c : UInt8) : (str (p ++ [c])).size = p.length + 1 := by rw [str_size]; simp
theorem shiftL_len (l : List UInt8) (d : Nat) : (shiftL l d).length = l.length := by
  by_cases h : l = []
  · subst h; rfl
  · obtain ⟨p, c, rfl⟩ := last_split h
    rw [shiftL_snoc]; simp
theorem refIn_any (k f t : List UInt8) (hk : k.length ≤ maxLen) (hf : f.length ≤ maxLen) (ht : t.length ≤ maxLen) : Ret 25 #[.string (str k), .string (str f), .string (str t)] (.bool (isB k && patB f && patB t && !ltB k f && (decide (t = []) || ltB k t))) :=
  refIn_g k f t _ _ _ _ _ _ (refIs_any k hk) (refPattern_any f hf).ret (refPattern_any t ht).ret (ahead_any k f hk hf) (ahead_any k t hk ht) (emp_eq t)
theorem endL_len (l : List UInt8) : (endL l).length = l.length := shiftL_len l 1
/-- May a text be the end of a range? -/
def stopB (l : List UInt8) : Bool := patB l || (!decide (l = []) && isB (shiftL l 255))
def overB (f t p : List UInt8) : Bool := patB f && patB p && stopB t && (decide (endL p = []) || ltB f (endL p)) && (decide (t = []) || ltB p t)
theorem okc_255 : okc 255 = false := rfl
theorem patB_snoc_no (p : List UInt8) {c : UInt8} (h : okc c = false) : patB (p ++ [c]) = false := by
  unfold patB
  rw [List.all_append]
  simp [h]
end Go.Proofs.YtbdfcgffkonbiaaGreatDoor
namespace Go.Proofs.YtbdfcgffkonbiaaGreatDoor.V7
open Go.RowKit
set_option linter.unusedVariables false
set_option linter.unusedSimpArgs false
theorem str_tl (l : List UInt8) : (str l).toList = l := by unfold str; simp
theorem ret_bool {a b : Bool} (h : a = b) : Ending.returned (.bool a) = Ending.returned (.bool b) := by rw [h]
set_option maxRecDepth 100000 in
theorem may_any (k i : Int) (s : List UInt8) (w : World) (hs : s.length ≤ maxLen) :
    Calls Tryz.prog 101 #[.agg #[.int .i64 k, .int .i64 i, .string (str s)]] w fun e w' => e = .returned (.bool (mayB ⟨k, i, s⟩)) ∧ Below w.heap.size w w' := by
  unfold maxLen at hs
  have bel : ∀ o, Below w.heap.size w (w.alloc o) := fun o => (Below.refl _ _).alloc (Nat.le_refl _) o
  have BEL := Lib.hid bel
  clear bel
  have hz : (str s).size = s.length := str_size s
  go_enter Tryz.func101, Tryz.ntmps101
  go_wp2_with fail
  all_goals
    go_ret
    refine ⟨ret_bool ?_, BEL.out _⟩
    clear BEL hz
    rw [Bool.eq_iff_iff]
    simp only [mayB, str_tl, decide_eq_true_eq, List.isEmpty_iff]
    simp only [bne_iff_ne, beq_iff_eq, bne_eq_false_iff_eq, beq_eq_false_iff_ne, ne_eq, Bool.false_eq_true, false_iff, not_or, not_and] at *
    first | omega | (simp_all; done) | (simp_all; omega)
end Go.Proofs.YtbdfcgffkonbiaaGreatDoor.V7
namespace Go.Proofs.YtbdfcgffkonbiaaGreatDoor.V7
open Go.RowKit
set_option linter.unusedVariables false
set_option linter.unusedSimpArgs false
/-- A value as the program has it. -/
def vv (k i : Int) (s : List UInt8) : Value := .agg #[.int .i64 k, .int .i64 i, .string (str s)]
theorem str_cut (l : List UInt8) (n : Nat) : (str l).extract 0 n = str (l.take n) := by
  apply ByteArray.ext
  simp [str, ByteArray.data_extract]
theorem str_e : (ByteArray.mk #[]) = str [] := rfl
theorem refInt_any (n : Int) (w : World) :
    Calls Tryz.prog 17 #[.int .i64 n] w fun e w' => e = .returned (.agg #[.int .i64 2, .int .i64 n, .string (str [])]) ∧ Below w.heap.size w w' := by
  go_enter Tryz.func17, Tryz.ntmps17
  go_wp2_with fail
  refine bodyPost_ret (v := .agg #[.int .i64 2, .int .i64 n, .string (str [])]) (by simp [results, Tryz.results17, go_sem, str_e]) rfl ⟨rfl, ?_⟩
  exact (Below.refl _ _).alloc (Nat.le_refl _) _
end Go.Proofs.YtbdfcgffkonbiaaGreatDoor.V7
namespace Go.Proofs.YtbdfcgffkonbiaaGreatDoor.V7
open Go.RowKit
set_option linter.unusedVariables false
set_option linter.unusedSimpArgs false
set_option maxRecDepth 100000 in
set_option maxHeartbeats 400000 in
theorem refMay_any (k i : Int) (s : List UInt8) (w : World) (hs : s.length ≤ maxLen) :
    Calls Tryz.prog 43 #[.agg #[.int .i64 k, .int .i64 i, .string (str s)]] w fun e w' => e = .returned (.bool (mayB ⟨k, i, s⟩)) ∧ Below w.heap.size w w' := by
  unfold maxLen at hs
  have bel : ∀ o, Below w.heap.size w (w.alloc o) := fun o => (Below.refl _ _).alloc (Nat.le_refl _) o
  have BEL := Lib.hid bel
  clear bel
  have hz : (str s).size = s.length := str_size s
  rcases (show (k = 0) ∨ (k = 1) ∨ (k = 2) ∨ (k = 3) ∨ ((k == 0) = false ∧ (k == 1) = false ∧ (k == 2) = false ∧ (k == 3) = false) by
    by_cases h0 : k = 0
    · exact .inl h0
    · by_cases h1 : k = 1
      · exact .inr (.inl h1)
      · by_cases h2 : k = 2
        · exact .inr (.inr (.inl h2))
        · by_cases h3 : k = 3
          · exact .inr (.inr (.inr (.inl h3)))
          · exact .inr (.inr (.inr (.inr ⟨by simpa using h0, by simpa using h1, by simpa using h2, by simpa using h3⟩)))) with rfl | rfl | rfl | rfl | ⟨h0, h1, h2, h3⟩
  all_goals
    go_enter Tryz.func43, Tryz.ntmps43
    go_wp2_with fail
    all_goals
      go_ret
      refine ⟨ret_bool ?_, BEL.out _⟩
      clear BEL hz
      rw [Bool.eq_iff_iff]
      simp only [mayB, str_tl, decide_eq_true_eq, List.isEmpty_iff]
      try simp only [bne_iff_ne, beq_iff_eq, bne_eq_false_iff_eq, beq_eq_false_iff_ne, ne_eq, Bool.false_eq_true, false_iff, not_or, not_and] at *
      first | omega | (simp_all; done) | (simp_all [str_tl]; done) | (simp_all [str_tl]; omega)
end Go.Proofs.YtbdfcgffkonbiaaGreatDoor.V7
