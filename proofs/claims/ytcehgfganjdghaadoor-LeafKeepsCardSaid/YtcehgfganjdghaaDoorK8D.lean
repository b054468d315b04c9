/- Keys: a text with its last byte turned. Written by wip/tools/gen8d.py. -/
import Derived.Test.YtcehgfganjdghaaDoorK8C
import Derived.Test.YtcehgfganjdghaaDoorReg
namespace Go.Proofs.YtcehgfganjdghaaDoor
open Go Go.RowKit
set_option linter.unusedVariables false
set_option linter.unusedSimpArgs false
theorem rd_block {w : World} {g : Nat} {l : List UInt8} {t : TypeId} (h : w.heap[g]? = some (.cells (l.map bv).toArray t (0, 0))) (hm : l.length ≤ maxLen) : Rd w (.slice (some ⟨g, 0, none⟩) l.length l.length) l := by
  refine ⟨some ⟨g, 0, none⟩, l.length, rfl, Nat.le_refl _, hm, by simp, ?_⟩
  intro _
  refine ⟨g, 0, rfl, lt_of_block h, ?_⟩
  intro i hi
  rw [Nat.zero_add, block_cell h]
  simp [hi]
theorem conv_one {w : World} {g : Nat} {u : UInt8} (h : w.heap[g]? = some (.cells #[.int .u8 (u.toNat : Int)] 5 (0, 0))) : (convert 58 9 (.slice (some ⟨g, 0, none⟩) 1 1)).run Tryd.prog w = .ok (.string (str [u])) w :=
  conv_rd (P := Tryd.prog) (rd_block (l := [u]) h (by simp [maxLen])) 58 5 9 Tryd.underlying58 Tryd.underlying5 Tryd.underlying9
end Go.Proofs.YtcehgfganjdghaaDoor
