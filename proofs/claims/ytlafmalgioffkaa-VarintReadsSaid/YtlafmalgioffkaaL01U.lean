/- Lists of texts: their bytes; what bytes are read as a list. Plain mathematics. -/
import Derived.Test.YtlafmalgioffkaaL01T
import Derived.Test.YtlafmalgioffkaaLst
namespace Go.Proofs.Ytlafmalgioffkaa
open Go.RowKit
set_option linter.unusedVariables false
set_option linter.unusedSimpArgs false
def sv (x : List UInt8) : Value := .string (str x)
/-- A text's bytes, however long it is. -/
def rawT (s : List UInt8) : List UInt8 := putL s.length ++ s
def flatT (l : List (List UInt8)) : List UInt8 := (l.map rawT).flatten
/-- A list's bytes, as the document reckons them of whatever list. -/
def listR (l : List (List UInt8)) : List UInt8 := putL l.length ++ flatT l
def okT (l : List (List UInt8)) : Bool := l.all fun s => decide (s.length ≤ 255)
/-- As the program does. -/
def listP (l : List (List UInt8)) : List UInt8 := if 255 < l.length then [] else if okT l = true then listR l else []
theorem flatT_step (l : List (List UInt8)) (j : Nat) (h : j < l.length) : flatT (l.take (j + 1)) = flatT (l.take j) ++ rawT (l.getD j []) := by
  have : l[j]? = some (l.getD j []) := by simp [List.getD, h]
  unfold flatT
  rw [List.take_add_one, this]
  simp
theorem flatT_take (l : List (List UInt8)) (j : Nat) : (flatT (l.take j)).length ≤ (flatT l).length := by
  have : flatT l = flatT (l.take j) ++ flatT (l.drop j) := by
    unfold flatT
    rw [← List.flatten_append, ← List.map_append, List.take_append_drop]
  rw [this]; simp
theorem okT_step (l : List (List UInt8)) (j : Nat) (h : j < l.length) : okT (l.take (j + 1)) = (okT (l.take j) && decide ((l.getD j []).length ≤ 255)) := by
  have : l[j]? = some (l.getD j []) := by simp [List.getD, h]
  unfold okT
  rw [List.take_add_one, this]
  simp
theorem okT_no (l : List (List UInt8)) (j : Nat) (h : j < l.length) (hc : 255 < (l.getD j []).length) : okT l = false := by
  have e : l.getD j [] = l[j] := by simp [List.getD, h]
  rw [e] at hc
  unfold okT
  rw [List.all_eq_false]
  exact ⟨l[j], List.getElem_mem h, by simp; omega⟩
theorem rawT_text {s : List UInt8} (h : s.length ≤ 255) : textL s = rawT s := if_pos h
/-- What is read of bytes, text by text: k more, at is where. -/
def cutGoT (b : List UInt8) : Nat → Nat → List (List UInt8) → List (List UInt8) × Nat × Nat
  | 0, at_, acc => (acc, at_, 0)
  | k + 1, at_, acc => if (cutTextL (b.drop at_)).2.2 ≠ 0 then ([], 0, (cutTextL (b.drop at_)).2.2) else cutGoT b k (at_ + (cutTextL (b.drop at_)).2.1) (acc ++ [(cutTextL (b.drop at_)).1])
def mostN (most : Int) : Nat := if most < 0 ∨ 255 < most then 255 else most.toNat
def cutListL (b : List UInt8) (most : Int) : List (List UInt8) × Nat × Nat :=
  if (cutL b).2.2 ≠ 0 then ([], 0, (cutL b).2.2) else if mostN most < (cutL b).1 then ([], 0, 8) else cutGoT b (cutL b).1 (cutL b).2.1 []
theorem cutGoT_step (b : List UInt8) (k at_ : Nat) (acc : List (List UInt8)) {s : List UInt8} {m e : Nat} (h : cutTextL (b.drop at_) = (s, m, e)) :
    cutGoT b (k + 1) at_ acc = if e ≠ 0 then ([], 0, e) else cutGoT b k (at_ + m) (acc ++ [s]) := by
  rw [cutGoT, h]
theorem cutTextL_fact {l : List UInt8} {s : List UInt8} {m e : Nat} (h : cutTextL l = (s, m, e)) : m ≤ l.length ∧ s.length ≤ l.length ∧ (e = 0 ∨ e = 2 ∨ e = 3 ∨ e = 8) := by
  obtain ⟨x, n, c, hc⟩ : ∃ x n c, cutL l = (x, n, c) := ⟨_, _, _, rfl⟩
  have hf := cutL_facts hc
  rw [cutTextL_eq hc] at h
  split at h
  · cases h; exact ⟨by omega, by simp, by omega⟩
  · split at h
    · cases h; exact ⟨by omega, by simp, by omega⟩
    · split at h
      · cases h; exact ⟨by omega, by simp, by omega⟩
      · cases h
        have : ((l.drop n).take x).length ≤ l.length := by simp; omega
        exact ⟨by omega, this, by omega⟩
end Go.Proofs.Ytlafmalgioffkaa
