/- Keys: parts: the cut at a slash, the iterator. -/
import Derived.Test.YtkcflkgfipfdfaaDoorK8F
import Derived.Test.YtkcflkgfipfdfaaDoorRng
import Derived.Lib.IndexBytes
namespace Go.Proofs.YtkcflkgfipfdfaaDoor
open Go Go.RowKit
attribute [local go_sem] Oper.semAt_some
set_option linter.unusedVariables false
set_option linter.unusedSimpArgs false
/-- The parts of a text, the first one begun by acc. -/
def partsGo : List UInt8 → List UInt8 → List (List UInt8)
  | acc, [] => [acc]
  | acc, c :: r => if c = 47 then acc :: partsGo [] r else partsGo (acc ++ [c]) r
def splitL (l : List UInt8) : List (List UInt8) := partsGo [] l
def partsB (l : List UInt8) : List (List UInt8) := if isB l = true then splitL l else []
theorem partsGo_split : ∀ (acc a b : List UInt8), (47 : UInt8) ∉ a → partsGo acc (a ++ 47 :: b) = (acc ++ a) :: partsGo [] b
  | acc, [], b, _ => by simp [partsGo]
  | acc, c :: a, b, h => by
    have hc : c ≠ 47 := fun e => h (by rw [e]; exact List.mem_cons_self)
    rw [List.cons_append, partsGo, if_neg hc, partsGo_split _ a b (fun hm => h (List.mem_cons_of_mem _ hm))]
    simp
theorem partsGo_none : ∀ (acc a : List UInt8), (47 : UInt8) ∉ a → partsGo acc a = [acc ++ a]
  | acc, [], _ => by simp [partsGo]
  | acc, c :: a, h => by
    have hc : c ≠ 47 := fun e => h (by rw [e]; exact List.mem_cons_self)
    rw [partsGo, if_neg hc, partsGo_none _ a (fun hm => h (List.mem_cons_of_mem _ hm))]
    simp
theorem partsGo_len : ∀ (l acc : List UInt8), (partsGo acc l).length ≤ l.length + 1
  | [], acc => by simp [partsGo]
  | c :: r, acc => by
    unfold partsGo
    split
    · have := partsGo_len r []
      simp; omega
    · have := partsGo_len r (acc ++ [c])
      simp; omega
theorem byte_split : ∀ l : List UInt8, ((47 : UInt8) ∉ l ∧ Lib.indexByte l 47 = -1) ∨ ∃ a b, l = a ++ 47 :: b ∧ (47 : UInt8) ∉ a ∧ Lib.indexByte l 47 = (a.length : Int)
  | [] => .inl ⟨by simp, rfl⟩
  | c :: r => by
    by_cases hc : c = 47
    · subst hc
      exact .inr ⟨[], r, rfl, by simp, by simp [Lib.indexByte]⟩
    · have hb : (c == 47) = false := by simpa using hc
      rcases byte_split r with ⟨h1, h2⟩ | ⟨a, b, h1, h2, h3⟩
      · refine .inl ⟨?_, by simp [Lib.indexByte, hb, h2]⟩
        intro hm
        rcases List.mem_cons.1 hm with e | e
        · exact hc e.symm
        · exact h1 e
      · refine .inr ⟨c :: a, b, by rw [h1]; rfl, ?_, ?_⟩
        · intro hm
          rcases List.mem_cons.1 hm with e | e
          · exact hc e.symm
          · exact h2 e
        · have : ¬ ((a.length : Int) == -1) = true := by simp
          simp only [Lib.indexByte, hb, h3, this]
          simp
theorem index_any (l : List UInt8) (w : World) : Calls Tryd.prog 50 #[.string (str l), .string (ByteArray.mk #[47])] w fun e w' => e = .returned (.int .i64 (Lib.indexByte l 47)) ∧ w = w' := by
  have := Tryd.stringslite_Index_one (str l) 47 w
  rw [str_toList] at this
  exact this.mono fun e w' h => ⟨h.1, h.2.symm⟩
theorem ret_cut {a a' b b' : ByteArray} {c c' : Bool} (h1 : a = a') (h2 : b = b') (h3 : c = c') : Ending.returned (.tuple #[.string a, .string b, .bool c]) = Ending.returned (.tuple #[.string a', .string b', .bool c']) := by rw [h1, h2, h3]
set_option maxRecDepth 100000 in
theorem cut0_yes (l a b : List UInt8) (hl : l.length ≤ maxLen) (n : Nat) (hn : n = a.length) (e : l = a ++ 47 :: b) (hi : Lib.indexByte l 47 = (n : Int)) (w : World) :
    Calls Tryd.prog 47 #[.string (str l), .string (ByteArray.mk #[47])] w fun e w' => e = .returned (.tuple #[.string (str a), .string (str b), .bool true]) ∧ ∃ k, w' = w.drewN k := by
  have hz := str_size l
  have hlen : l.length = n + 1 + b.length := by rw [e, hn]; simp; omega
  have x1 : (str l).extract 0 n = str a := by rw [str_extract, e, hn]; simp
  have x2 : (str l).extract (n + 1) l.length = str b := by
    rw [str_extract, e, hn]
    simp
    rw [List.take_of_length_le (by omega)]
  have IX := fun w => index_any l w
  rw [hi] at IX
  unfold maxLen at hl
  have e20 : IntKind.i64.wrap ((n : Int) + 1) = (n : Int) + 1 := by rw [IntKind.wrap_i64]; omega
  have e21 : ((n : Int) + 1).toNat = n + 1 := by omega
  have l1 : n ≤ l.length := by omega
  have l2 : (n : Int) + 1 ≤ l.length := by omega
  have l3 : 0 ≤ (n : Int) + 1 := by omega
  have s1 : (ByteArray.mk #[47]).size = 1 := rfl
  clear e hn hi hlen
  go_enter Tryd.func47, Tryd.ntmps47
  go_wp2_with (go_at_call 50; refine (IX _).mono ?_; rintro e w' ⟨rfl, rfl⟩)
  go_quiet (fail)
  go_wp2_with fail
  go_ret3
  exact ⟨rfl, _, rfl⟩
set_option maxRecDepth 100000 in
theorem cut0_no (l : List UInt8) (hi : Lib.indexByte l 47 = -1) (w : World) :
    Calls Tryd.prog 47 #[.string (str l), .string (ByteArray.mk #[47])] w fun e w' => e = .returned (.tuple #[.string (str l), .string (str []), .bool false]) ∧ ∃ k, w' = w.drewN k := by
  have IX := fun w => index_any l w
  rw [hi] at IX
  clear hi
  go_enter Tryd.func47, Tryd.ntmps47
  go_wp2_with (go_at_call 50; refine (IX _).mono ?_; rintro e w' ⟨rfl, rfl⟩)
  go_ret3
  exact ⟨rfl, 0, rfl⟩
theorem cut_any (l a b : List UInt8) (f : Bool) (w : World) (H : ∀ w, Calls Tryd.prog 47 #[.string (str l), .string (ByteArray.mk #[47])] w fun e w' => e = .returned (.tuple #[.string (str a), .string (str b), .bool f]) ∧ ∃ k, w' = w.drewN k) :
    Calls Tryd.prog 43 #[.string (str l), .string (ByteArray.mk #[47])] w fun e w' => e = .returned (.tuple #[.string (str a), .string (str b), .bool f]) ∧ ∃ k, w' = w.drewN k := by
  go_enter Tryd.func43, Tryd.ntmps43
  go_wp2_with (go_at_call 47; refine (H _).mono ?_; rintro e w' ⟨rfl, k, rfl⟩)
  go_ret3
  exact ⟨rfl, _, rfl⟩
end Go.Proofs.YtkcflkgfipfdfaaDoor
