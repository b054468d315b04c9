/- Values: the law ValueTexts. Written by wip/tools/gen9q3.py. -/
import Derived.Test.YtcehgfganjdghaaDoorQVTC29
import Derived.Test.YtcehgfganjdghaaDoorQVTC31
import Derived.Test.YtcehgfganjdghaaDoorQVTC32
import Derived.Test.YtcehgfganjdghaaDoorQVTC33
namespace Go.Proofs.YtcehgfganjdghaaDoor.V7
open Go Go.RowKit
set_option linter.unusedVariables false
set_option linter.unusedSimpArgs false
theorem put3 {w : World} {B : Nat} {a0 a1 a2 : Value} (u0 u1 u2 : Value) {t : TypeId} (h : w.heap[B]? = some (.cells #[a0, a1, a2] t (0, 0))) :
    (((w.setCell ⟨B, 0, none⟩ u0).setCell ⟨B, 1, none⟩ u1).setCell ⟨B, 2, none⟩ u2).heap[B]? = some (.cells #[u0, u1, u2] t (0, 0)) := by
  simpa using set_at (i := 2) (u := u2) (set_at (i := 1) (u := u1) (set_at (i := 0) (u := u0) h))
theorem put3_old {w : World} {B k : Nat} {u0 u1 u2 : Value} {o : Obj} (h : w.heap[k]? = some o) (hk : k ≠ B) :
    (((w.setCell ⟨B, 0, none⟩ u0).setCell ⟨B, 1, none⟩ u1).setCell ⟨B, 2, none⟩ u2).heap[k]? = some o := by
  rw [set_old hk, set_old hk, set_old hk, h]
theorem put3_below {w v : World} {B n : Nat} {u0 u1 u2 : Value} (hb : Below n v w) (hn : n ≤ B) : Below n v (((w.setCell ⟨B, 0, none⟩ u0).setCell ⟨B, 1, none⟩ u1).setCell ⟨B, 2, none⟩ u2) :=
  ((hb.setCell (p := ⟨B, 0, none⟩) hn u0).setCell (p := ⟨B, 1, none⟩) hn u1).setCell (p := ⟨B, 2, none⟩) hn u2
theorem val_ne (k i : Int) (s : List UInt8) (w : World) : (binOp .neq 30 (.agg #[.int .i64 k, .int .i64 i, .string (str s)]) (.agg #[.int .i64 k, .int .i64 i, .string (str s)])).run Tryd.prog w = .ok (.bool false) w := by
  go_simp
theorem val_ne_op (op : Oper) (a : Act) (x y : Operand) (T' : TypeId) (k i : Int) (s : List UInt8) (ho : op.op = .binOp .neq 30 x y T') (hx : a.eval x = .agg #[.int .i64 k, .int .i64 i, .string (str s)]) (hy : a.eval y = .agg #[.int .i64 k, .int .i64 i, .string (str s)]) (w : World) :
    (execOp a.eval op).run Tryd.prog w = .ok (.value (.bool false)) w := by
  have h := val_ne k i s w
  simp only [execOp, ho, hx, hy]
  have g := val_guard
  go_simp
end Go.Proofs.YtcehgfganjdghaaDoor.V7
