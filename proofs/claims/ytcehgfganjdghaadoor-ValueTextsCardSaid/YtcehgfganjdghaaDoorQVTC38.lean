/- Values: a value among the arguments. -/
import Derived.Test.YtcehgfganjdghaaDoorQVTC10
import Derived.Lib.SmallJoins
import Derived.ProofKit
import Derived.OpenShut
namespace Go.Proofs.YtcehgfganjdghaaDoor.V7
open Go.ChangeShapes Go.WideShapes Go.ChangeAt Go.RowKit Go.Joins
set_option linter.unusedVariables false
theorem value_cells : Tryd.prog.cellsOf 30 = 3 := by kernel_rfl
theorem int_cells : Tryd.prog.cellsOf 3 = 1 := by kernel_rfl
theorem int64_cells : Tryd.prog.cellsOf 2 = 1 := by kernel_rfl
theorem string_cells : Tryd.prog.cellsOf 9 = 1 := by kernel_rfl
theorem array3 {α : Type} {cs : Array α} (h : cs.size = 3) : ∃ c0 c1 c2, cs = #[c0, c1, c2] := by
  obtain ⟨l⟩ := cs
  match l, h with
  | [c0, c1, c2], _ => exact ⟨c0, c1, c2, rfl⟩
section
variable {H : Type} {enc : TypeId × Value → H}
set_option maxRecDepth 100000 in
theorem open_value {W : World} {r : Reach} {base b0 : Nat} {sp : Nat → Bool} {hd : Bool} {v : Value} {d : DataW H} {p : List MemPlace}
    (hval : Value.okWide Tryd.prog W r b0 30 v) (h : DataW.Trod enc Tryd.prog W base sp hd 30 v d p) : ∃ (k i : Int) (s : List UInt8), v = .agg #[.int .i64 k, .int .i64 i, .string (str s)] ∧ (Lit.int .i64 k).wf = true ∧ (Lit.int .i64 i).wf = true ∧ s.length ≤ maxLen := by
  obtain ⟨cs, rfl, hsz⟩ := okWide_struct Tryd.underlying30 hval
  obtain ⟨c0, c1, c2, rfl⟩ := array3 (hsz.trans value_cells)
  obtain ⟨fuel, hf⟩ := h
  obtain ⟨xs, n, _, hx, _, hlen, hg⟩ := DataW.trod_struct Tryd.underlying30 hf
  match xs, hlen with
  | [y0, y1, y2], _ =>
    have h0 := hg 0 _ rfl
    have h1 := hg 1 _ rfl
    have h2 := hg 2 _ rfl
    simp [Value.cells, int_cells, int64_cells, string_cells] at h0 h1 h2
    obtain ⟨a0, e0, _, u0⟩ := DataW.trod_int Tryd.underlying3 h0
    obtain ⟨a1, e1, _, u1⟩ := DataW.trod_int Tryd.underlying2 h1
    obtain ⟨a2, e2, _, u2⟩ := DataW.trod_string Tryd.underlying9 h2
    simp at e0 e1 e2
    subst e0 e1 e2
    refine ⟨a0, a1, a2.data.toList, by rw [str_of], u0, u1, ?_⟩
    have e : a2.data.toList.length = a2.size := by rw [Array.length_toList]; rfl
    rw [e]; exact u2
end
end Go.Proofs.YtcehgfganjdghaaDoor.V7
