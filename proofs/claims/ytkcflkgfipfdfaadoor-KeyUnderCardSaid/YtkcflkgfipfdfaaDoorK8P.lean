/- Keys: five texts in a struct among the arguments. -/
import Derived.Test.YtkcflkgfipfdfaaDoorK8A
import Derived.Lib.SmallJoins
import Derived.ProofKit
import Derived.OpenShut
namespace Go.Proofs.YtkcflkgfipfdfaaDoor
open Go.ChangeShapes Go.WideShapes Go.ChangeAt Go.RowKit Go.Joins
set_option linter.unusedVariables false
theorem five_cells : Tryd.prog.cellsOf 37 = 5 := by kernel_rfl
theorem string_cells : Tryd.prog.cellsOf 9 = 1 := by kernel_rfl
theorem array5 {α : Type} {cs : Array α} (h : cs.size = 5) : ∃ c0 c1 c2 c3 c4, cs = #[c0, c1, c2, c3, c4] := by
  obtain ⟨l⟩ := cs
  match l, h with
  | [c0, c1, c2, c3, c4], _ => exact ⟨c0, c1, c2, c3, c4, rfl⟩
section
variable {H : Type} {enc : TypeId × Value → H}
theorem open_five {W : World} {r : Reach} {base b0 : Nat} {sp : Nat → Bool} {hd : Bool} {v : Value} {d : DataW H} {p : List MemPlace}
    (hval : Value.okWide Tryd.prog W r b0 37 v) (h : DataW.Trod enc Tryd.prog W base sp hd 37 v d p) : ∃ (s0 s1 s2 s3 s4 : List UInt8), v = .agg #[.string (str s0), .string (str s1), .string (str s2), .string (str s3), .string (str s4)] ∧ s0.length ≤ maxLen ∧ s1.length ≤ maxLen ∧ s2.length ≤ maxLen ∧ s3.length ≤ maxLen ∧ s4.length ≤ maxLen := by
  obtain ⟨cs, rfl, hsz⟩ := okWide_struct Tryd.underlying37 hval
  obtain ⟨c0, c1, c2, c3, c4, rfl⟩ := array5 (hsz.trans five_cells)
  obtain ⟨fuel, hf⟩ := h
  obtain ⟨xs, n, _, hx, _, hlen, hg⟩ := DataW.trod_struct Tryd.underlying37 hf
  have el : ∀ a : ByteArray, a.size ≤ maxLen → a.data.toList.length ≤ maxLen := fun a u => by
    have e : a.data.toList.length = a.size := by rw [Array.length_toList]; rfl
    rw [e]; exact u
  match xs, hlen with
  | [y0, y1, y2, y3, y4], _ =>
    have h0 := hg 0 _ rfl
    have h1 := hg 1 _ rfl
    have h2 := hg 2 _ rfl
    have h3 := hg 3 _ rfl
    have h4 := hg 4 _ rfl
    simp [Value.cells, string_cells] at h0 h1 h2 h3 h4
    obtain ⟨a0, e0, _, u0⟩ := DataW.trod_string Tryd.underlying9 h0
    obtain ⟨a1, e1, _, u1⟩ := DataW.trod_string Tryd.underlying9 h1
    obtain ⟨a2, e2, _, u2⟩ := DataW.trod_string Tryd.underlying9 h2
    obtain ⟨a3, e3, _, u3⟩ := DataW.trod_string Tryd.underlying9 h3
    obtain ⟨a4, e4, _, u4⟩ := DataW.trod_string Tryd.underlying9 h4
    simp at e0 e1 e2 e3 e4
    subst e0 e1 e2 e3 e4
    exact ⟨a0.data.toList, a1.data.toList, a2.data.toList, a3.data.toList, a4.data.toList, by simp only [str_of], el a0 u0, el a1 u1, el a2 u2, el a3 u3, el a4 u4⟩
end
end Go.Proofs.YtkcflkgfipfdfaaDoor
