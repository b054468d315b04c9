/- Quorums: the numbers of a set, one behind the other: the iterator. -/
import Derived.Test.YtgmblgpfgdfnaaaQMM9
import Derived.Test.YtgmblgpfgdfnaaaQMM10
namespace Go.Proofs.Ytgmblgpfgdfnaaa
open Go Go.RowKit
attribute [local go_sem] Oper.semAt_some
set_option linter.unusedVariables false
set_option linter.unusedSimpArgs false
/-- The iterator turns its own cell. -/
def TwB (B : Nat) (X Y : World) : Prop := ∃ v, Y = X.setCell ⟨B, 0, none⟩ v
/-- A round keeps the iterator's cell, and the library's table. -/
def KpB (B : Nat) (X Y : World) : Prop := X.heap.size ≤ Y.heap.size ∧ Y.heap[B]? = X.heap[B]? ∧ Y.heap[0]? = X.heap[0]?
theorem KpB.trans {B : Nat} {X Y Z : World} (h : KpB B X Y) (k : KpB B Y Z) : KpB B X Z := ⟨Nat.le_trans h.1 k.1, k.2.1.trans h.2.1, k.2.2.trans h.2.2⟩
theorem KpB.tab {B : Nat} {X Y : World} (h : KpB B X Y) (t : TabAt X) : TabAt Y :=
  ⟨Nat.lt_of_lt_of_le t.1 h.1, fun i hi => by rw [← t.2 i hi]; simp only [World.cell?, h.2.2]⟩
theorem tab_set {B : Nat} {X : World} (t : TabAt X) (hB : 0 < B) (v : Value) : TabAt (X.setCell ⟨B, 0, none⟩ v) := by
  refine ⟨by simpa using t.1, fun i hi => ?_⟩
  rw [← t.2 i hi]
  simp only [World.cell?, set_old (w := X) (B := B) (i := 0) (k := 0) (u := v) (by omega)]
/-- What the iterator's cell holds. -/
def setAt (B : Nat) (w : World) : Nat := match w.cell? ⟨B, 0, none⟩ with
  | some (.int _ z) => z.toNat
  | _ => 0
theorem setAt_of {B : Nat} {w : World} {s : Nat} {t : TypeId} (h : Boxed w B t (.int .u64 (s : Int))) : setAt B w = s := by
  unfold setAt; rw [h.cell]; rfl
theorem sub_and (x y : Nat) (hx : x < 18446744073709551616) (h0 : 0 < x) (h : x &&& (x - 1) = y) : bits .and .u64 (x : Int) ((x : Int) - 1) = (y : Int) := by
  have e : (x : Int) - 1 = ((x - 1 : Nat) : Int) := by omega
  rw [e, and_p x (x - 1) y hx (by omega) h]
end Go.Proofs.Ytgmblgpfgdfnaaa
