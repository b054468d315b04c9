/- A slice whose elements take one cell each, as a list of values: what is read of it. It speaks of no program in particular. -/
import Derived.Test.YtkmhjodnddfkeaaDoorQLBC3
import Derived.OpenShut
namespace Go.Proofs.YtkmhjodnddfkeaaDoor
open Go.RowKit
set_option linter.unusedVariables false
set_option linter.unusedSimpArgs false
def RdV (w : World) (v : Value) (xs : List Value) : Prop :=
  ∃ ao cap, v = .slice ao xs.length cap ∧ xs.length ≤ cap ∧ cap ≤ maxLen ∧ (ao = none → cap = 0) ∧
    (0 < xs.length → ∃ b off, ao = some ⟨b, off, none⟩ ∧ b < w.heap.size ∧ ∀ i, i < xs.length → w.cell? ⟨b, off + i, none⟩ = xs[i]?)
theorem rdv_nil (w : World) : RdV w (.slice none 0 0) [] := ⟨none, 0, rfl, by simp, by decide, by simp, by simp⟩
theorem RdV.below {w w' : World} {v : Value} {xs : List Value} (h : RdV w v xs) {B : Nat} (hb : Below B w w') (hB : w.heap.size ≤ B) : RdV w' v xs := by
  obtain ⟨ao, cap, h1, h2, h3, h4, h5⟩ := h
  refine ⟨ao, cap, h1, h2, h3, h4, ?_⟩
  intro hl
  obtain ⟨b, off, h6, h7, h8⟩ := h5 hl
  exact ⟨b, off, h6, Nat.lt_of_lt_of_le h7 hb.size, fun i hi => (hb.cell (p := ⟨b, off + i, none⟩) (Nat.lt_of_lt_of_le h7 hB)).trans (h8 i hi)⟩
theorem own_rdv {w : World} {base : Nat} {e : TypeId} {v : Value} {n : Nat} {xs : List Value} (h : w.ownsRow base e 1 v n xs) : RdV w v xs := by
  have hl : xs.length = n := by have := h.1; simpa using this
  rcases h.2 with ⟨h1, h2⟩ | ⟨g, cap, cur, h1, _, _, h2, h3, _⟩
  · subst h1
    have : xs = [] := List.eq_nil_of_length_eq_zero (by omega)
    subst this
    exact rdv_nil w
  · subst h1
    subst hl
    refine ⟨_, cap, rfl, h2, h3, by simp, ?_⟩
    intro _
    refine ⟨g, 0, rfl, (h.lt g rfl).2, ?_⟩
    intro i hi
    rw [Nat.zero_add, h.cellAt i (by simpa using hi)]
theorem rdv_of_ints {w : World} {k : IntKind} {x : Addr} {len cap : Nat} {zs : List Int} (hl : len ≤ cap) (hm : cap ≤ maxLen) (hz : zs.length = cap)
    (hcell : ∀ i, i < zs.length → w.cell? (x.add i) = some (.int k (zs.getD i 0))) : RdV w (.slice (some x) len cap) ((zs.take len).map (Value.int k)) := by
  have hlen : ((zs.take len).map (Value.int k)).length = len := by simp; omega
  refine ⟨some x, cap, by rw [hlen], by omega, hm, by simp, ?_⟩
  intro h0
  rw [hlen] at h0 ⊢
  obtain ⟨b, off, sp⟩ := x
  have hs : sp = none := by simpa [Addr.add] using World.cell?_spot (hcell 0 (by omega))
  subst hs
  refine ⟨b, off, rfl, ?_, ?_⟩
  · have := World.block_lt_of_cell? w _ (hcell 0 (by omega))
    simpa [Addr.add] using this
  · intro i hi
    have h1 := hcell i (by omega)
    rw [Addr.add_lit] at h1
    rw [h1]
    have hi' : i < zs.length := by omega
    simp [hi, hi', List.getElem?_take]
/-- What is read, shorter. -/
theorem RdV.short {w : World} {ao : Option Addr} {n cap : Nat} {xs : List Value} (h : RdV w (.slice ao n cap) xs) (m : Nat) (hm : m ≤ n) : RdV w (.slice ao m cap) (xs.take m) := by
  obtain ⟨ao', cap', h1, h2, h3, h4, h5⟩ := h
  injection h1 with e1 e2 e3
  subst e1; subst e3
  have hlen : (xs.take m).length = m := by simp; omega
  refine ⟨ao, cap, by rw [hlen], by omega, h3, h4, ?_⟩
  intro h0
  rw [hlen] at h0 ⊢
  obtain ⟨b, off, h6, h7, h8⟩ := h5 (by omega)
  exact ⟨b, off, h6, h7, fun i hi => by rw [h8 i (by omega), List.getElem?_take, if_pos hi]⟩
end Go.Proofs.YtkmhjodnddfkeaaDoor
