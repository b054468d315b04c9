/- Pieces of bytes among the arguments: a slice of slices that is read. -/
import Derived.Test.YtfejjmodkjpmfaaS03K
import Derived.Deep.Matrix
namespace Go.Proofs.Ytfejjmodkjpmfaa
open Go.ChangeShapes Go.WideShapes Go.ChangeAt Go.RowKit Go.Joins Go.Deep
set_option linter.unusedVariables false
/-- What is read: a slice of slices of bytes. -/
def RdP (w : World) (v : Value) (ls : List (List UInt8)) : Prop :=
  ∃ ao cap, v = .slice ao ls.length cap ∧ ls.length ≤ cap ∧ cap ≤ maxLen ∧
    (0 < ls.length → ∃ b off, ao = some ⟨b, off, none⟩ ∧ b < w.heap.size ∧ ∀ i, i < ls.length → ∃ vi, w.cell? ⟨b, off + i, none⟩ = some vi ∧ Rd w vi (ls.getD i []))
theorem RdP.below {w w' : World} {v : Value} {ls : List (List UInt8)} (h : RdP w v ls) (g : Below w.heap.size w w') : RdP w' v ls := by
  obtain ⟨ao, cap, h1, h2, h3, h4⟩ := h
  refine ⟨ao, cap, h1, h2, h3, fun hl => ?_⟩
  obtain ⟨b, off, h5, h6, h7⟩ := h4 hl
  refine ⟨b, off, h5, Nat.lt_of_lt_of_le h6 g.size, fun i hi => ?_⟩
  obtain ⟨vi, h8, h9⟩ := h7 i hi
  exact ⟨vi, (g.cell (p := ⟨b, off + i, none⟩) h6).trans h8, h9.below g (Nat.le_refl _)⟩
/-- A row of the call's own, read, and apart from a block below its base. -/
theorem own_rdN {w : World} {base : Nat} {e : TypeId} {v : Value} {n B : Nat} {l : List UInt8} (h : w.ownsRow base e 1 v n (l.map bv)) (hB : B < base) : RdN w v l B := by
  have hl : n = l.length := by have := h.1; simpa using this.symm
  rcases h.2 with ⟨rfl, h2⟩ | ⟨g, cap, cur, rfl, hb, hg, h3, h4, _⟩
  · obtain rfl : l = [] := List.eq_nil_of_length_eq_zero (by omega)
    exact ⟨none, 0, rfl, Nat.le_refl _, by decide, fun _ => rfl, fun hp => by simp at hp⟩
  · have lt := lt_of_block hg
    refine ⟨some ⟨g, 0, none⟩, cap, by rw [hl], by rw [← hl]; exact h3, h4, fun hh => (by cases hh), fun hp => ⟨g, 0, rfl, by omega, lt, fun i hi => ?_⟩⟩
    rw [Nat.zero_add, h.cellAt i (by omega)]
    simp [hi]
theorem slices_cells : Try.prog.cellsOf 25 = 1 := by kernel_rfl
theorem bytes_cells : Try.prog.cellsOf 5 = 1 := by kernel_rfl
section
variable {H : Type} {enc : TypeId × Value → H}
theorem open_pieces {W : World} {r : Reach} {b0 : Nat} {v : Value} {d : DataW H} {p : List MemPlace}
    (hval : Value.okWide Try.prog W r b0 30 v) (h : DataW.Trod enc Try.prog W 0 (fun _ => true) true 30 v d p) : ∃ ls, RdP W v ls := by
  obtain ⟨ao, len, cap, rfl⟩ := okWide_slice Try.underlying30 hval
  obtain ⟨fuel, hf⟩ := h
  rcases open_int_rows Try.underlying30 Try.underlying25 Try.underlying5 slices_cells bytes_cells hf with ⟨hcs, _⟩ | ⟨a, len', cap', A, L, C, Z, hcs, _, hl, hm, _, hx⟩
  · simp [Value.cells] at hcs
    obtain ⟨rfl, rfl, rfl⟩ := hcs
    exact ⟨[], none, 0, rfl, Nat.le_refl _, by decide, fun hp => by simp at hp⟩
  · simp [Value.cells] at hcs
    obtain ⟨rfl, rfl, rfl⟩ := hcs
    refine ⟨(List.range len).map fun i => ((Z i).take (L i)).map fun n => UInt8.ofNat n.toNat, some a, cap, by simp, by simpa using hl, hm, fun hp => ?_⟩
    simp only [List.length_map, List.length_range] at hp ⊢
    obtain ⟨b, off, sp⟩ := a
    have hs : sp = none := by simpa [Addr.add] using World.cell?_spot (hx 0 (by omega)).1
    subst hs
    refine ⟨b, off, rfl, ?_, fun i hi => ?_⟩
    · have := World.block_lt_of_cell? W _ (hx 0 (by omega)).1
      simpa [Addr.add] using this
    · obtain ⟨c1, c2, c3, c4, c5, c6, c7⟩ := hx i (by omega)
      refine ⟨.slice (A i) (L i) (C i), by rw [← Addr.add_lit]; exact c1, ?_⟩
      have e : ((List.range len).map fun i => ((Z i).take (L i)).map fun n => UInt8.ofNat n.toNat).getD i [] = ((Z i).take (L i)).map fun n => UInt8.ofNat n.toNat := by
        simp [List.getD, hi]
      rw [e]
      cases hA : A i with
      | none =>
        have hc := c6 hA
        rw [hc] at c2 c4 ⊢
        have hL : L i = 0 := by omega
        rw [hL]
        simpa using rd_nil W
      | some a' => exact rd_of_ints c2 c3 c4 (fun k hk => (c7 a' hA).2 k (by omega)) c5
end
end Go.Proofs.Ytfejjmodkjpmfaa
