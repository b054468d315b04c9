/- Texts among the arguments. -/
import Derived.Test.YtoagdmglchccnaaGreatDoorQRR11
import Derived.Lib.SmallJoins
import Derived.ProofKit
import Derived.OpenShut
import Derived.SliceStrings
namespace Go.Proofs.YtoagdmglchccnaaGreatDoor
open Go.ChangeShapes Go.WideShapes Go.ChangeAt Go.RowKit Go.Joins
set_option linter.unusedVariables false
set_option linter.unusedSimpArgs false
set_option maxRecDepth 100000
section
variable {H : Type} {enc : TypeId × Value → H}
theorem open_texts {W : World} {r : Reach} {base b0 : Nat} {sp : Nat → Bool} {hd : Bool} {v : Value} {d : DataW H} {p : List MemPlace}
    (hval : Value.okWide Tryz.prog W r b0 22 v) (h : DataW.Trod enc Tryz.prog W base sp hd 22 v d p) : ∃ L : List (List UInt8), RdV W v (L.map T2.sv) ∧ ∀ x ∈ L, x.length ≤ maxLen := by
  obtain ⟨a, len, cap, rfl⟩ := okWide_slice Tryz.underlying22 hval
  obtain ⟨fuel, hf⟩ := h
  have el : ∀ a : ByteArray, a.data.toList.length = a.size := fun a => by rw [Array.length_toList]; rfl
  rcases open_strings Tryz.underlying22 Tryz.underlying9 (by kernel_rfl) hf with ⟨hcs, _⟩ | ⟨x, l, c, ss, hcs, _, hl, hm, hz, _, hcell, hsz⟩
  · simp [Value.cells] at hcs
    obtain ⟨rfl, rfl, rfl⟩ := hcs
    exact ⟨[], rdv_nil _, by simp⟩
  · simp [Value.cells] at hcs
    obtain ⟨rfl, rfl, rfl⟩ := hcs
    have hlen : (ss.take len).length = len := by rw [List.length_take, hz]; split <;> omega
    refine ⟨(ss.take len).map (·.data.toList), ?_, ?_⟩
    · have e : ((ss.take len).map (·.data.toList)).map T2.sv = (ss.take len).map Value.string := by
        rw [List.map_map]
        apply List.map_congr_left
        intro a _
        show Value.string (str a.data.toList) = _
        rw [str_of]
      rw [e]
      refine ⟨some x, cap, by rw [List.length_map, hlen], by rw [List.length_map, hlen]; exact hl, hm, by simp, ?_⟩
      intro h0
      rw [List.length_map, hlen] at h0 ⊢
      obtain ⟨b, off, sp⟩ := x
      have hlt : ∀ i, i < len → i < ss.length := fun i hi => by rw [List.length_take] at hlen; omega
      have hs : sp = none := by simpa [Addr.add] using World.cell?_spot (hcell 0 (hlt 0 h0))
      subst hs
      refine ⟨b, off, rfl, ?_, ?_⟩
      · have := World.block_lt_of_cell? W _ (hcell 0 (hlt 0 h0))
        simpa [Addr.add] using this
      · intro i hi
        have h1 := hcell i (hlt i hi)
        rw [Addr.add_lit] at h1
        rw [h1, List.getElem?_map, List.getElem?_take, if_pos hi]
        have := hlt i hi
        simp [List.getD, this]
    · intro y hy
      obtain ⟨z, hz1, rfl⟩ := List.mem_map.1 hy
      rw [el]
      exact hsz z (List.mem_of_mem_take hz1)
end
end Go.Proofs.YtoagdmglchccnaaGreatDoor
