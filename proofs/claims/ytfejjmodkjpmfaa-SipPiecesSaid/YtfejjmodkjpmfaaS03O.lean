/- A secret among the arguments: it is a value of two cells. -/
import Derived.Test.YtfejjmodkjpmfaaS03G
import Derived.Lib.SmallJoins
import Derived.ProofKit
import Derived.OpenShut
namespace Go.Proofs.Ytfejjmodkjpmfaa
open Go.ChangeShapes Go.WideShapes Go.ChangeAt Go.RowKit Go.Joins
set_option linter.unusedVariables false
theorem secret_cells : Try.prog.cellsOf 24 = 2 := by kernel_rfl
theorem u64_cells : Try.prog.cellsOf 22 = 1 := by kernel_rfl
theorem array2 {α : Type} {cs : Array α} (h : cs.size = 2) : ∃ c0 c1, cs = #[c0, c1] := by
  obtain ⟨l⟩ := cs
  match l, h with
  | [c0, c1], _ => exact ⟨c0, c1, rfl⟩
theorem nat_of_wf {x : Int} (h : (Lit.int .u64 x).wf = true) : ∃ n : Nat, x = (n : Int) ∧ n < 18446744073709551616 := by
  simp [Lit.wf, IntKind.min, IntKind.max, IntKind.signed, IntKind.bits] at h
  exact ⟨x.toNat, by omega, by omega⟩
section
variable {H : Type} {enc : TypeId × Value → H}
theorem open_secret {W : World} {r : Reach} {base b0 : Nat} {sp : Nat → Bool} {hd : Bool} {v : Value} {d : DataW H} {p : List MemPlace}
    (hval : Value.okWide Try.prog W r b0 24 v) (h : DataW.Trod enc Try.prog W base sp hd 24 v d p) : ∃ k0 k1 : Nat, v = .agg #[.int .u64 (k0 : Int), .int .u64 (k1 : Int)] ∧ k0 < 18446744073709551616 ∧ k1 < 18446744073709551616 := by
  obtain ⟨cs, rfl, hsz⟩ := okWide_struct Try.underlying24 hval
  obtain ⟨c0, c1, rfl⟩ := array2 (hsz.trans secret_cells)
  obtain ⟨fuel, hf⟩ := h
  obtain ⟨xs, n, _, hx, _, hlen, hg⟩ := DataW.trod_struct Try.underlying24 hf
  match xs, hlen with
  | [y0, y1], _ =>
    have h0 := hg 0 _ rfl
    have h1 := hg 1 _ rfl
    simp [Value.cells, u64_cells] at h0 h1
    obtain ⟨a0, e0, _, u0⟩ := DataW.trod_int Try.underlying22 h0
    obtain ⟨a1, e1, _, u1⟩ := DataW.trod_int Try.underlying22 h1
    simp at e0 e1
    subst e0 e1
    obtain ⟨n0, rfl, l0⟩ := nat_of_wf u0
    obtain ⟨n1, rfl, l1⟩ := nat_of_wf u1
    exact ⟨n0, n1, rfl, l0, l1⟩
end
theorem parts_row (k0 k1 : Nat) (v : Value) (l : List UInt8) (cut : Int) (W : World) (h0 : k0 < 18446744073709551616) (h1 : k1 < 18446744073709551616) (h : Rd W v l) (hw : (Lit.int .i64 cut).wf = true) :
    Calls Try.prog 6 #[.agg #[.int .u64 (k0 : Int), .int .u64 (k1 : Int)], v, .int .i64 cut] W fun e w' => e = .returned (.bool true) ∧ Below W.heap.size W w' := by
  have hb : -9223372036854775808 ≤ cut ∧ cut ≤ 9223372036854775807 := by
    simp [Lit.wf, IntKind.min, IntKind.max, IntKind.signed, IntKind.bits] at hw
    exact ⟨by omega, by omega⟩
  exact parts_core k0 k1 h0 h1 v l cut hb.1 hb.2 W h
end Go.Proofs.Ytfejjmodkjpmfaa
