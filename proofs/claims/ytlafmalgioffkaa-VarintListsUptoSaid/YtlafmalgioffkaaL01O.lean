/- A list of texts among the arguments, its bulk bounded. -/
import Derived.Test.YtlafmalgioffkaaL01U
import Derived.Test.YtlafmalgioffkaaBulk
import Derived.ProofKit
import Derived.OpenShut
import Derived.SliceStrings
namespace Go.Proofs.Ytlafmalgioffkaa
open Go.ChangeShapes Go.WideShapes Go.ChangeAt Go.RowKit
set_option linter.unusedVariables false
section
variable {H : Type} {enc : TypeId × Value → H}
theorem open_texts_upto {W : World} {r : Reach} {base b0 : Nat} {sp : Nat → Bool} {hd : Bool} {v : Value} {d : DataW H} {p : List MemPlace}
    (hval : Value.okWide Try.prog W r b0 49 v) (h : DataW.Trod enc Try.prog W base sp hd 49 v d p) (hbk : Rows.uptoBulk d ≤ 1048576) : ∃ L : List (List UInt8), RdV W v (L.map sv) ∧ ∀ x ∈ L, x.length ≤ 1048576 := by
  obtain ⟨a, len, cap, rfl⟩ := okWide_slice Try.underlying49 hval
  obtain ⟨fuel, hf⟩ := h
  have el : ∀ a : ByteArray, a.data.toList.length = a.size := fun a => by rw [Array.length_toList]; rfl
  rcases open_strings Try.underlying49 Try.underlying9 (by kernel_rfl) hf with ⟨hcs, _⟩ | ⟨x, l, c, ss, hcs, _, hl, hm, hz, hxx, hcell, hsz⟩
  · simp [Value.cells] at hcs
    obtain ⟨rfl, rfl, rfl⟩ := hcs
    exact ⟨[], rdv_nil _, by simp⟩
  · simp [Value.cells] at hcs
    obtain ⟨rfl, rfl, rfl⟩ := hcs
    have hd : d = .slice (strs (ss.take len)) (strs (ss.drop len)) := by cases hxx; rfl
    have hlen : (ss.take len).length = len := by rw [List.length_take, hz]; split <;> omega
    refine ⟨(ss.take len).map (·.data.toList), ?_, ?_⟩
    · have e : ((ss.take len).map (·.data.toList)).map sv = (ss.take len).map Value.string := by
        rw [List.map_map]
        apply List.map_congr_left
        intro a _
        show Value.string (str a.data.toList) = _
        rw [str_of]
      rw [e]
      refine ⟨some x, cap, by rw [List.length_map, hlen], by rw [List.length_map, hlen]; exact hl, hm, by simp, ?_⟩
      intro h0
      rw [List.length_map, hlen] at h0 ⊢
      obtain ⟨b, off, sp⟩ := x
      have hlt : ∀ i, i < len → i < ss.length := fun i hi => by rw [List.length_take] at hlen; omega
      have hs : sp = none := by simpa [Addr.add] using World.cell?_spot (hcell 0 (hlt 0 h0))
      subst hs
      refine ⟨b, off, rfl, ?_, ?_⟩
      · have := World.block_lt_of_cell? W _ (hcell 0 (hlt 0 h0))
        simpa [Addr.add] using this
      · intro i hi
        have h1 := hcell i (hlt i hi)
        rw [Addr.add_lit] at h1
        rw [h1, List.getElem?_map, List.getElem?_take, if_pos hi]
        have := hlt i hi
        simp [List.getD, this]
    · intro y hy
      obtain ⟨z, hz1, rfl⟩ := List.mem_map.1 hy
      rw [hd] at hbk
      have hmem : (DataW.lit (H := H) (.string z.data.toList)) ∈ strs (ss.take len) := by
        unfold strs
        exact List.mem_map.2 ⟨z, hz1, rfl⟩
      have h1 := bulk_part hmem
      have h2 : Rows.uptoBulkAll (strs (H := H) (ss.take len)) ≤ Rows.uptoBulk (DataW.slice (H := H) (strs (ss.take len)) (strs (ss.drop len))) := by
        simp only [Rows.uptoBulk]; omega
      have h3 : Rows.uptoBulk (DataW.lit (H := H) (.string z.data.toList)) = z.data.toList.length + 1 := by simp [Rows.uptoBulk]
      omega
end
end Go.Proofs.Ytlafmalgioffkaa
