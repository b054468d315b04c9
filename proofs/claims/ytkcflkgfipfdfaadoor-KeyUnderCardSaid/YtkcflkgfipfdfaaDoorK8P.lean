/- Keys: five texts in a struct among the arguments. -/
import Derived.Test.YtkcflkgfipfdfaaDoorK8A
import Derived.Lib.SmallJoins
import Derived.ProofKit
import Derived.OpenShut
import Derived.SliceStrings
import Derived.Test.YtkcflkgfipfdfaaDoorLst
import Derived.Test.YtkcflkgfipfdfaaDoorK8H
namespace Go.Proofs.YtkcflkgfipfdfaaDoor
open Go.ChangeShapes Go.WideShapes Go.ChangeAt Go.RowKit Go.Joins
set_option linter.unusedVariables false
theorem five_cells : Tryd.prog.cellsOf 37 = 5 := by kernel_rfl
theorem string_cells : Tryd.prog.cellsOf 9 = 1 := by kernel_rfl
theorem array5 {α : Type} {cs : Array α} (h : cs.size = 5) : ∃ c0 c1 c2 c3 c4, cs = #[c0, c1, c2, c3, c4] := by
  obtain ⟨l⟩ := cs
  match l, h with
  | [c0, c1, c2, c3, c4], _ => exact ⟨c0, c1, c2, c3, c4, rfl⟩
section
variable {H : Type} {enc : TypeId × Value → H}
theorem open_five {W : World} {r : Reach} {base b0 : Nat} {sp : Nat → Bool} {hd : Bool} {v : Value} {d : DataW H} {p : List MemPlace}
    (hval : Value.okWide Tryd.prog W r b0 37 v) (h : DataW.Trod enc Tryd.prog W base sp hd 37 v d p) : ∃ (s0 s1 s2 s3 s4 : List UInt8), v = .agg #[.string (str s0), .string (str s1), .string (str s2), .string (str s3), .string (str s4)] ∧ s0.length ≤ maxLen ∧ s1.length ≤ maxLen ∧ s2.length ≤ maxLen ∧ s3.length ≤ maxLen ∧ s4.length ≤ maxLen := by
  obtain ⟨cs, rfl, hsz⟩ := okWide_struct Tryd.underlying37 hval
  obtain ⟨c0, c1, c2, c3, c4, rfl⟩ := array5 (hsz.trans five_cells)
  obtain ⟨fuel, hf⟩ := h
  obtain ⟨xs, n, _, hx, _, hlen, hg⟩ := DataW.trod_struct Tryd.underlying37 hf
  have el : ∀ a : ByteArray, a.size ≤ maxLen → a.data.toList.length ≤ maxLen := fun a u => by
    have e : a.data.toList.length = a.size := by rw [Array.length_toList]; rfl
    rw [e]; exact u
  match xs, hlen with
  | [y0, y1, y2, y3, y4], _ =>
    have h0 := hg 0 _ rfl
    have h1 := hg 1 _ rfl
    have h2 := hg 2 _ rfl
    have h3 := hg 3 _ rfl
    have h4 := hg 4 _ rfl
    simp [Value.cells, string_cells] at h0 h1 h2 h3 h4
    obtain ⟨a0, e0, _, u0⟩ := DataW.trod_string Tryd.underlying9 h0
    obtain ⟨a1, e1, _, u1⟩ := DataW.trod_string Tryd.underlying9 h1
    obtain ⟨a2, e2, _, u2⟩ := DataW.trod_string Tryd.underlying9 h2
    obtain ⟨a3, e3, _, u3⟩ := DataW.trod_string Tryd.underlying9 h3
    obtain ⟨a4, e4, _, u4⟩ := DataW.trod_string Tryd.underlying9 h4
    simp at e0 e1 e2 e3 e4
    subst e0 e1 e2 e3 e4
    exact ⟨a0.data.toList, a1.data.toList, a2.data.toList, a3.data.toList, a4.data.toList, by simp only [str_of], el a0 u0, el a1 u1, el a2 u2, el a3 u3, el a4 u4⟩
theorem open_texts {W : World} {r : Reach} {base b0 : Nat} {sp : Nat → Bool} {hd : Bool} {v : Value} {d : DataW H} {p : List MemPlace}
    (hval : Value.okWide Tryd.prog W r b0 27 v) (h : DataW.Trod enc Tryd.prog W base sp hd 27 v d p) : ∃ L : List (List UInt8), RdV W v (L.map sv) ∧ ∀ x ∈ L, x.length ≤ maxLen := by
  obtain ⟨a, len, cap, rfl⟩ := okWide_slice Tryd.underlying27 hval
  obtain ⟨fuel, hf⟩ := h
  have el : ∀ a : ByteArray, a.data.toList.length = a.size := fun a => by rw [Array.length_toList]; rfl
  rcases open_strings Tryd.underlying27 Tryd.underlying9 (by kernel_rfl) hf with ⟨hcs, _⟩ | ⟨x, l, c, ss, hcs, _, hl, hm, hz, _, hcell, hsz⟩
  · simp [Value.cells] at hcs
    obtain ⟨rfl, rfl, rfl⟩ := hcs
    exact ⟨[], rdv_nil _, by simp⟩
  · simp [Value.cells] at hcs
    obtain ⟨rfl, rfl, rfl⟩ := hcs
    have hlen : (ss.take len).length = len := by rw [List.length_take, hz]; split <;> omega
    refine ⟨(ss.take len).map (·.data.toList), ?_, ?_⟩
    · have e : ((ss.take len).map (·.data.toList)).map sv = (ss.take len).map Value.string := by
        rw [List.map_map]
        apply List.map_congr_left
        intro a _
        show Value.string (str a.data.toList) = _
        rw [str_of]
      rw [e]
      refine ⟨some x, cap, by rw [List.length_map, hlen], by rw [List.length_map, hlen]; exact hl, hm, by simp, ?_⟩
      intro h0
      rw [List.length_map, hlen] at h0 ⊢
      obtain ⟨b, off, sp⟩ := x
      have hlt : ∀ i, i < len → i < ss.length := fun i hi => by rw [List.length_take] at hlen; omega
      have hs : sp = none := by simpa [Addr.add] using World.cell?_spot (hcell 0 (hlt 0 h0))
      subst hs
      refine ⟨b, off, rfl, ?_, ?_⟩
      · have := World.block_lt_of_cell? W _ (hcell 0 (hlt 0 h0))
        simpa [Addr.add] using this
      · intro i hi
        have h1 := hcell i (hlt i hi)
        rw [Addr.add_lit] at h1
        rw [h1, List.getElem?_map, List.getElem?_take, if_pos hi]
        have := hlt i hi
        simp [List.getD, this]
    · intro y hy
      obtain ⟨z, hz1, rfl⟩ := List.mem_map.1 hy
      rw [el]
      exact hsz z (List.mem_of_mem_take hz1)
end
end Go.Proofs.YtkcflkgfipfdfaaDoor
