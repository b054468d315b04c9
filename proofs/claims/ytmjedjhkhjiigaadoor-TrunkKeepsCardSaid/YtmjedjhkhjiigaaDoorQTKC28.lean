/- Values: how two are to one another. -/
/- Values: which is ahead. Written by wip/tools/gen7e.py. -/
import Derived.Test.YtmjedjhkhjiigaaDoorQTKC10
namespace Go.Proofs.YtmjedjhkhjiigaaDoor.V7
open Go.RowKit
set_option linter.unusedVariables false
set_option linter.unusedSimpArgs false
def iz (n : Int) : Value := .int .i64 n
/-- The first that is not nothing. -/
def orL : List Int → Int
  | [] => 0
  | x :: l => if x ≠ 0 then x else orL l
theorem orL_three (a b c : Int) : orL [a, b, c] = if a ≠ 0 then a else if b ≠ 0 then b else c := by
  unfold orL orL orL orL
  by_cases ha : a = 0 <;> by_cases hb : b = 0 <;> by_cases hc : c = 0 <;> simp [ha, hb, hc]
theorem rdv_block {w : World} {g : Nat} {cs : Array Value} {t : TypeId} (h : w.heap[g]? = some (.cells cs t (0, 0))) (n : Nat) (hn : n = cs.size) (hm : n ≤ maxLen) : RdV w (.slice (some ⟨g, 0, none⟩) n n) cs.toList := by
  subst hn
  refine ⟨some ⟨g, 0, none⟩, cs.size, by simp, by simp, hm, by simp, ?_⟩
  intro _
  refine ⟨g, 0, rfl, lt_of_block h, ?_⟩
  intro i hi
  rw [Nat.zero_add, block_cell h]
  simp
end Go.Proofs.YtmjedjhkhjiigaaDoor.V7
namespace Go.Proofs.YtmjedjhkhjiigaaDoor.V7
open Go.RowKit
set_option linter.unusedVariables false
set_option linter.unusedSimpArgs false
theorem cells3 {w : World} {B : Nat} {a0 a1 a2 : Value} {t : TypeId} (h : w.heap[B]? = some (.cells #[a0, a1, a2] t (0, 0))) :
    w.cell? ⟨B, 0, none⟩ = some a0 ∧ w.cell? ⟨B, 1, none⟩ = some a1 ∧ w.cell? ⟨B, 2, none⟩ = some a2 := by
  refine ⟨?_, ?_, ?_⟩
  all_goals simp [World.cell?, h]
def lessB (a b : V) : Bool := mayB a && mayB b && decide (ordV a b < 0)
end Go.Proofs.YtmjedjhkhjiigaaDoor.V7
