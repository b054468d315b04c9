/- Marks: marks and lists of marks among the arguments. Written by wip/tools/gen30o.py. -/
import Derived.Test.YtgmblgpfgdfnaaaQMM27
import Derived.Lib.SmallJoins
import Derived.ProofKit
import Derived.OpenShut
import Derived.SliceStrings
import Derived.ChangeOld
namespace Go.Proofs.Ytgmblgpfgdfnaaa
open Go.ChangeMaps (open_string)
open Go Go.ChangeShapes Go.WideShapes Go.ChangeAt Go.RowKit Go.Joins
set_option linter.unusedVariables false
set_option linter.unusedSimpArgs false
set_option maxRecDepth 100000
theorem mark_cells30 : Try.prog.cellsOf 30 = 3 := by kernel_rfl
theorem marks_cells30 : Try.prog.cellsOf 24 = 3 := by kernel_rfl
theorem list_cells30 : Try.prog.cellsOf 22 = 1 := by kernel_rfl
theorem int_cells30 : Try.prog.cellsOf 3 = 1 := by kernel_rfl
theorem array3 {α : Type} {cs : Array α} (h : cs.size = 3) : ∃ c0 c1 c2, cs = #[c0, c1, c2] := by
  obtain ⟨l⟩ := cs
  match l, h with
  | [c0, c1, c2], _ => exact ⟨c0, c1, c2, rfl⟩
section
variable {H : Type} {enc : TypeId × Value → H}
theorem mark_of {W : World} {base : Nat} {sp : Nat → Bool} {fuel : Nat} {u0 u1 u2 : Value} {hd : Bool} {y : DataW H × List MemPlace}
    (hy : DataW.trod enc Try.prog W base sp hd fuel 30 [u0, u1, u2] = some y) : ∃ x : Vt, [u0, u1, u2] = vtC x ∧ x.vw ≤ 9223372036854775807 := by
  obtain ⟨xs, n, _, hx, _, hlen, hg⟩ := DataW.trod_struct Try.underlying30 hy
  match xs, hlen with
  | [y0, y1, y2], _ =>
    have h0 := hg 0 _ rfl
    have h1 := hg 1 _ rfl
    have h2 := hg 2 _ rfl
    simp [int_cells30] at h0 h1 h2
    obtain ⟨a0, e0, _, w0⟩ := DataW.trod_int Try.underlying3 h0
    obtain ⟨a1, e1, _, w1⟩ := DataW.trod_int Try.underlying3 h1
    obtain ⟨a2, e2, _, w2⟩ := DataW.trod_int Try.underlying3 h2
    simp at e0 e1 e2
    subst e0 e1 e2
    exact ⟨⟨a0, a1, a2⟩, rfl, by simp [Lit.wf, IntKind.min, IntKind.max, IntKind.signed, IntKind.bits] at w1; show a1 ≤ _; omega⟩
theorem open_markl_at {W : World} {base : Nat} {fuel : Nat} {hd : Bool} {v : Value} {y : DataW H × List MemPlace}
    (hf : DataW.trod enc Try.prog W base (fun _ => true) hd fuel 22 [v] = some y) : ∃ l : List Vt, RdT W v l ∧ ∀ x ∈ l, x.vw ≤ 9223372036854775807 := by
  rcases DataW.trod_slice Try.underlying22 hf with ⟨hcs, _⟩ | ⟨x, l, c, elems, rest, n, _, hcs, _, hb, hl, hm, hlen, hel, _, _⟩
  · simp at hcs
    subst hcs
    exact ⟨[], rdk_nil W, fun x hx => by cases hx⟩
  · simp at hcs
    subst hcs
    obtain ⟨len, rfl⟩ : ∃ len, len = l := ⟨_, rfl⟩
    obtain ⟨cap, rfl⟩ : ∃ cap, cap = c := ⟨_, rfl⟩
    by_cases h0 : len = 0
    · subst h0
      exact ⟨[], ⟨some x, cap, rfl, Nat.zero_le _, hm, by simp, by simp⟩, fun x hx => by cases hx⟩
    obtain ⟨b, off, sp⟩ := x
    have hs : sp = none := by
      have h1 := hel 0 (by omega)
      rw [List.getElem?_eq_getElem (by omega : 0 < elems.length), Option.bind_eq_some_iff] at h1
      obtain ⟨cs0, q2, _⟩ := h1
      rw [mark_cells30] at q2
      have q3 := World.cells?_some q2
      have q4 := q3.2.2 0 (by omega)
      have hl0 : 0 < cs0.length := by have := q3.2.1; omega
      rw [List.getElem?_eq_getElem hl0] at q4
      simpa [Addr.add] using World.cell?_spot q4
    subst hs
    have each : ∀ j, j < len → ∃ it : Vt, (∀ i, i < 3 → W.cell? ⟨b, off + (j * 3 + i), none⟩ = (vtC it)[i]?) ∧ it.vw ≤ 9223372036854775807 := by
      intro j hj
      have h1 := hel j hj
      rw [List.getElem?_eq_getElem (by omega : j < elems.length), Option.bind_eq_some_iff] at h1
      obtain ⟨cs, hc1, hy⟩ := h1
      rw [mark_cells30] at hc1
      obtain ⟨_, hl5, hcell⟩ := World.cells?_some hc1
      match cs, hl5 with
      | [u0, u1, u2], _ =>
        obtain ⟨it, hx, hb9⟩ := mark_of hy
        refine ⟨it, fun i hi => ?_, hb9⟩
        have := hcell i hi
        rw [hx, Addr.add_lit, Addr.add_lit, Nat.add_assoc] at this
        exact this
    have pick : ∃ f : Nat → Vt, ∀ j, j < len → (∀ i, i < 3 → W.cell? ⟨b, off + (j * 3 + i), none⟩ = (vtC (f j))[i]?) ∧ (f j).vw ≤ 9223372036854775807 := by
      refine ⟨fun j => if h : j < len then (each j h).choose else ⟨0, 0, 0⟩, fun j hj => ?_⟩
      simp only [hj, dite_true]
      exact (each j hj).choose_spec
    obtain ⟨f, hf3⟩ := pick
    have hf2 : ∀ j, j < len → ∀ i, i < 3 → W.cell? ⟨b, off + (j * 3 + i), none⟩ = (vtC (f j))[i]? := fun j hj => (hf3 j hj).1
    have hL : ((List.range len).map f).length = len := by simp
    refine ⟨(List.range len).map f, ⟨some ⟨b, off, none⟩, cap, by rw [hL], by rw [hL]; exact hl, hm, by simp, ?_⟩, fun x hx => by
      rw [List.mem_map] at hx
      obtain ⟨j, hj, rfl⟩ := hx
      exact (hf3 j (List.mem_range.1 hj)).2⟩
    rw [hL]
    intro h0
    have c0 := hf2 0 h0 0 (by omega)
    have hb0 : b < W.heap.size := by
      have : W.cell? ⟨b, off + (0 * 3 + 0), none⟩ = some (.int .i64 (f 0).fr) := c0
      exact World.block_lt_of_cell? W _ this
    refine ⟨b, off, rfl, hb0, fun t ht => ?_⟩
    have hj : t / 3 < len := by omega
    have h1 := hf2 (t / 3) hj (t % 3) (by omega)
    have e1 : t / 3 * 3 + t % 3 = t := by omega
    have h2 := flat_get vtC_len ((List.range len).map f) (t / 3) (t % 3) (by rw [hL]; exact hj) (by omega)
    rw [e1] at h1 h2
    rw [h1, h2]
    simp
theorem open_markl {W : World} {r : Reach} {base b0 : Nat} {hd : Bool} {v : Value} {d : DataW H} {p : List MemPlace}
    (hval : Value.okWide Try.prog W r b0 22 v) (h : DataW.Trod enc Try.prog W base (fun _ => true) hd 22 v d p) : ∃ l : List Vt, RdT W v l ∧ ∀ x ∈ l, x.vw ≤ 9223372036854775807 := by
  obtain ⟨a, len, cap, rfl⟩ := okWide_slice Try.underlying22 hval
  obtain ⟨fuel, hf⟩ := h
  exact open_markl_at (by simpa [Value.cells] using hf)
theorem marks_of {W : World} {base : Nat} {fuel : Nat} {u0 u1 u2 : Value} {hd : Bool} {y : DataW H × List MemPlace}
    (hy : DataW.trod enc Try.prog W base (fun _ => true) hd fuel 24 [u0, u1, u2] = some y) :
    ∃ m : Ms, u0 = .int .i64 m.low ∧ u1 = .int .i64 m.root ∧ RdM W m u2 := by
  obtain ⟨xs, n, _, hx, _, hlen, hg⟩ := DataW.trod_struct Try.underlying24 hy
  match xs, hlen with
  | [y0, y1, y2], _ =>
    have h0 := hg 0 _ rfl
    have h1 := hg 1 _ rfl
    have h2 := hg 2 _ rfl
    simp [int_cells30, list_cells30] at h0 h1 h2
    obtain ⟨a0, e0, _, w0⟩ := DataW.trod_int Try.underlying3 h0
    obtain ⟨a1, e1, _, w1⟩ := DataW.trod_int Try.underlying3 h1
    obtain ⟨l2, r2, b2⟩ := open_markl_at h2
    simp at e0 e1
    subst e0 e1
    exact ⟨⟨a0, a1, l2⟩, rfl, rfl, r2, b2⟩
theorem open_marks {W : World} {r : Reach} {base b0 : Nat} {hd : Bool} {v : Value} {d : DataW H} {p : List MemPlace}
    (hval : Value.okWide Try.prog W r b0 24 v) (h : DataW.Trod enc Try.prog W base (fun _ => true) hd 24 v d p) : ∃ (m : Ms) (u : Value), v = mV m u ∧ RdM W m u := by
  obtain ⟨cs, rfl, hsz⟩ := okWide_struct Try.underlying24 hval
  obtain ⟨c0, c1, c2, rfl⟩ := array3 (hsz.trans marks_cells30)
  obtain ⟨fuel, hf⟩ := h
  obtain ⟨m, h0, h1, h2⟩ := marks_of (u0 := c0) (u1 := c1) (u2 := c2) hf
  subst h0 h1
  exact ⟨m, c2, rfl, h2⟩
end
end Go.Proofs.Ytgmblgpfgdfnaaa
