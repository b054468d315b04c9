/- Leaves: chunks among the arguments: a slice of slices of bytes. -/
import Derived.Test.YtcehgfganjdghaaDoorQLCC40
import Derived.Deep.Matrix
import Derived.Test.YtcehgfganjdghaaDoorQLCC45
namespace Go.Proofs.YtcehgfganjdghaaDoor
open Go.ChangeShapes Go.WideShapes Go.ChangeAt Go.RowKit Go.Joins Go.Deep
set_option linter.unusedVariables false
set_option maxRecDepth 100000
theorem slices_cells : Tryd.prog.cellsOf 58 = 1 := by kernel_rfl
theorem bytes_cells : Tryd.prog.cellsOf 5 = 1 := by kernel_rfl
section
variable {H : Type} {enc : TypeId × Value → H}
theorem open_pieces {W : World} {r : Reach} {b0 : Nat} {v : Value} {d : DataW H} {p : List MemPlace}
    (hval : Value.okWide Tryd.prog W r b0 54 v) (h : DataW.Trod enc Tryd.prog W 0 (fun _ => true) true 54 v d p) : ∃ ls, RdP W v ls := by
  obtain ⟨ao, len, cap, rfl⟩ := okWide_slice Tryd.underlying54 hval
  obtain ⟨fuel, hf⟩ := h
  rcases open_int_rows Tryd.underlying54 Tryd.underlying58 Tryd.underlying5 slices_cells bytes_cells hf with ⟨hcs, _⟩ | ⟨a, len', cap', A, L, C, Z, hcs, _, hl, hm, _, hx⟩
  · simp [Value.cells] at hcs
    obtain ⟨rfl, rfl, rfl⟩ := hcs
    exact ⟨[], none, 0, rfl, Nat.le_refl _, by decide, fun _ => rfl, fun hp => by simp at hp⟩
  · simp [Value.cells] at hcs
    obtain ⟨rfl, rfl, rfl⟩ := hcs
    refine ⟨(List.range len).map fun i => ((Z i).take (L i)).map fun n => UInt8.ofNat n.toNat, some a, cap, by simp, by simpa using hl, hm, by simp, fun hp => ?_⟩
    simp only [List.length_map, List.length_range] at hp ⊢
    obtain ⟨b, off, sp⟩ := a
    have hs : sp = none := by simpa [Addr.add] using World.cell?_spot (hx 0 (by omega)).1
    subst hs
    refine ⟨b, off, rfl, ?_, fun i hi => ?_⟩
    · have := World.block_lt_of_cell? W _ (hx 0 (by omega)).1
      simpa [Addr.add] using this
    · obtain ⟨c1, c2, c3, c4, c5, c6, c7⟩ := hx i (by omega)
      refine ⟨.slice (A i) (L i) (C i), by rw [← Addr.add_lit]; exact c1, ?_⟩
      have e : ((List.range len).map fun i => ((Z i).take (L i)).map fun n => UInt8.ofNat n.toNat).getD i [] = ((Z i).take (L i)).map fun n => UInt8.ofNat n.toNat := by
        simp [List.getD, hi]
      rw [e]
      cases hA : A i with
      | none =>
        have hc := c6 hA
        rw [hc] at c2 c4 ⊢
        have hL : L i = 0 := by omega
        rw [hL]
        simpa using rd_nil W
      | some a' => exact rd_of_ints c2 c3 c4 (fun k hk => (c7 a' hA).2 k (by omega)) c5
end
end Go.Proofs.YtcehgfganjdghaaDoor
