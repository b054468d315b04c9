/- What is asked, among the arguments: a list of structs of two numbers. -/
import Derived.Test.YtlafmalgioffkaaL01H
import Derived.ProofKit
import Derived.OpenShut
namespace Go.Proofs.Ytlafmalgioffkaa
open Go.ChangeShapes Go.WideShapes Go.ChangeAt Go.RowKit
set_option linter.unusedVariables false
theorem take_cells : Try.prog.cellsOf 67 = 2 := by kernel_rfl
theorem int_cells : Try.prog.cellsOf 3 = 1 := by kernel_rfl
theorem u64_cells : Try.prog.cellsOf 23 = 1 := by kernel_rfl
section
variable {H : Type} {enc : TypeId × Value → H}
theorem open_takes {W : World} {r : Reach} {base b0 : Nat} {sp : Nat → Bool} {hd : Bool} {v : Value} {d : DataW H} {p : List MemPlace}
    (hval : Value.okWide Try.prog W r b0 60 v) (h : DataW.Trod enc Try.prog W base sp hd 60 v d p) : ∃ n, RdA W v n := by
  obtain ⟨a, len, cap, rfl⟩ := okWide_slice Try.underlying60 hval
  obtain ⟨fuel, hf⟩ := h
  rcases DataW.trod_slice Try.underlying60 hf with ⟨hcs, _⟩ | ⟨x, l, c, elems, rest, n, _, hcs, _, hb, hl, hm, hlen, hel, _, _⟩
  · simp [Value.cells] at hcs
    obtain ⟨rfl, rfl, rfl⟩ := hcs
    exact ⟨0, none, 0, rfl, by omega, by omega, Lib.hid fun j hj => absurd hj (by omega)⟩
  · simp [Value.cells] at hcs
    obtain ⟨rfl, rfl, rfl⟩ := hcs
    refine ⟨len, _, cap, rfl, hl, by unfold maxLen at hm; omega, Lib.hid fun j hj => ?_⟩
    have hall : ∀ j, j < len → ∃ cs, W.cells? base (x.add (j * 2)) 2 = some cs := by
      intro j hj
      have q1 := hel j hj
      rw [List.getElem?_eq_getElem (by omega : j < elems.length), Option.bind_eq_some_iff] at q1
      obtain ⟨cs0, q2, _⟩ := q1
      rw [take_cells] at q2
      exact ⟨cs0, q2⟩
    have h1 := hel j hj
    rw [List.getElem?_eq_getElem (by omega : j < elems.length), Option.bind_eq_some_iff] at h1
    obtain ⟨cs, hc1, hy⟩ := h1
    rw [take_cells] at hc1
    have hcell := (World.cells?_some hc1).2.2
    have hcl := (World.cells?_some hc1)
    obtain ⟨xs, m, _, hx, hcl2, hxl, hg⟩ := DataW.trod_struct Try.underlying67 hy
    rw [take_cells] at hcl2
    match cs, hcl2, xs, hxl with
    | [u0, u1], _, [y0, y1], _ =>
      have g0 := hg 0 _ rfl
      have g1 := hg 1 _ rfl
      simp [int_cells, u64_cells] at g0 g1
      obtain ⟨n0, e0, _, w0⟩ := DataW.trod_int Try.underlying3 g0
      obtain ⟨n1, e1, _, w1⟩ := DataW.trod_int Try.underlying23 g1
      simp at e0 e1
      subst e0 e1
      have k0 := hcell 0 (by omega)
      have k1 := hcell 1 (by omega)
      obtain ⟨b, off, s⟩ := x
      have hs : s = none := by
        obtain ⟨cs0, q2⟩ := hall 0 (by omega)
        have q3 := World.cells?_some q2
        have q4 := q3.2.2 0 (by omega)
        have hl0 : 0 < cs0.length := by have := q3.2.1; omega
        rw [List.getElem?_eq_getElem hl0] at q4
        simpa [Addr.add] using World.cell?_spot q4
      subst hs
      rw [Addr.add_lit, Addr.add_lit] at k0 k1
      simp only [Nat.add_zero, List.getElem?_cons_zero, List.getElem?_cons_succ] at k0 k1
      have := World.block_lt_of_cell? W _ k0
      exact ⟨b, off, n0, n1, rfl, by simpa using this, by simpa using k0, by rw [← Nat.add_assoc]; simpa using k1, u64_of_wf w1⟩
end
end Go.Proofs.Ytlafmalgioffkaa
