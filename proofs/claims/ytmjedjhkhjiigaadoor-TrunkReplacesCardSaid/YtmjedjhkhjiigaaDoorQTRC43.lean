/- Trunks: parts of blocks. Written by wip/tools/gen10v.py. -/
import Derived.Deep.MidRow
import Derived.Test.YtmjedjhkhjiigaaDoorQTRC41
import Derived.Test.YtmjedjhkhjiigaaDoorQTRC42
namespace Go.Proofs.YtmjedjhkhjiigaaDoor
open Go Go.RowKit
set_option linter.unusedVariables false
set_option linter.unusedSimpArgs false
theorem load_part_op {P : Program} (op : Oper) (a : Act) (x : Operand) {ty : TypeId} {g : Nat} {cs : Array Value} {d : TypeDesc} {w : World} (ho : op.op = .load ty x) (hx : a.eval x = .pointer (some ⟨g, 0, none⟩)) (hc : w.rangeAt g 0 cs.toList)
    (hu : P.underlying ty = some d) (hd : d.isRow = true) (hi : (P.info? ty).map (·.size) = some cs.size) : (execOp a.eval op).run P w = .ok (.value (.agg cs)) w := by
  have h := run_loadVar_mid (P := P) w g 0 ty cs.toList d hc hu hd (by simpa using hi)
  rw [Array.toArray_toList] at h
  unfold execOp
  simp only [ho, hx, Instr.loadAt, Instr.sureAddr, Sem.run_bind, Sem.run_pure, Result.andThen_ok, h]
theorem part_at {w : World} {g : Nat} {CO cs : Array Value} {t : TypeId} {fr : Nat × Nat} (h : w.heap[g]? = some (.cells CO t fr)) (hs : ∀ j, j < cs.size → CO[j]? = cs[j]?) : w.rangeAt g 0 cs.toList := fun j v hv => by
  rw [Array.getElem?_toList] at hv
  have hj : j < cs.size := by
    rcases Nat.lt_or_ge j cs.size with h1 | h1
    · exact h1
    · rw [Array.getElem?_eq_none h1] at hv; cases hv
  rw [Nat.zero_add, cell_of_row w g j CO t fr h, hs j hj, hv]
theorem there_of {w : World} {g o n : Nat} {C : Array Value} {t : TypeId} (h : w.heap[g]? = some (.cells C t (0, 0))) (ho : o + n ≤ C.size) : w.there g o n := fun j hj => by
  refine ⟨?_, frozen_of_row w g (o + j) C t h⟩
  rw [cell_of_row w g (o + j) C t (0, 0) h, Array.getElem?_eq_getElem (by omega)]; rfl
theorem own_row {w : World} {base : Nat} {e : TypeId} {size n cap m gr : Nat} {al : Option Addr} {xs : List Value} (h : w.ownsRow base e size (.slice al n cap) m xs) (ha : al = some ⟨gr, 0, none⟩) :
    base ≤ gr ∧ gr < w.heap.size ∧ m ≤ cap ∧ ∃ C : Array Value, w.heap[gr]? = some (.cells C e (0, 0)) ∧ C.size = cap * size := by
  subst ha
  rcases h.2 with ⟨h1, _⟩ | ⟨g, cap', cur, h1, h2, h3, h4, h5, h6, _⟩
  · cases h1
  · cases h1
    exact ⟨h2, lt_of_block h3, h4, cur, h3, h6⟩
theorem own_some {w : World} {base : Nat} {e : TypeId} {size n cap m : Nat} {al : Option Addr} {xs : List Value} (h : w.ownsRow base e size (.slice al n cap) m xs) (hm : 0 < m) : ∃ gr, al = some ⟨gr, 0, none⟩ := by
  rcases h.2 with ⟨_, h1⟩ | ⟨g, cap', cur, h1, _⟩
  · omega
  · cases h1; exact ⟨g, rfl⟩
/-- Stores into one row: the rows from N on stay, and those below B. -/
theorem sets_keep {B g N m : Nat} {t : TypeId} {w0 X : World} (hB : B ≤ g) (hN : g < N) : ∀ (vs : List Value) (o : Nat) (w : World), Below B w0 w → (∀ k, N ≤ k → w.heap[k]? = X.heap[k]?) → (∃ C : Array Value, w.heap[g]? = some (.cells C t (0, 0)) ∧ C.size = m) →
    Below B w0 (w.setCells g o vs) ∧ (∀ k, N ≤ k → (w.setCells g o vs).heap[k]? = X.heap[k]?) ∧ (∃ C : Array Value, (w.setCells g o vs).heap[g]? = some (.cells C t (0, 0)) ∧ C.size = m)
  | [], _, _, h1, h2, h3 => ⟨h1, h2, h3⟩
  | v :: r, o, w, h1, h2, ⟨C, h3, h4⟩ => by
    rw [World.setCells]
    refine sets_keep hB hN r (o + 1) _ (h1.setCell (p := ⟨g, o, none⟩) hB v) (fun k hk => ?_) ⟨_, set_at h3, by simp [h4]⟩
    rw [heap_setCell_other _ _ _ _ (by show k ≠ g; omega)]; exact h2 k hk
end Go.Proofs.YtmjedjhkhjiigaaDoor
