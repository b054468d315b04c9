/- A table of texts: what the row's listed variables give a walk: the table of powers; what the laws are handed. -/
import Derived.Test.YtblhgliegoickaaDoorRows
import Derived.Test.YtblhgliegoickaaDoorT2C
import Derived.ProofKit
import Derived.LaidMore
import Derived.OpenShut
import Derived.Stop.Joined
import Derived.SliceStrings
namespace Go.Proofs.YtblhgliegoickaaDoor
open Go Go.ChangeShapes Go.WideShapes Go.ChangeAt Go.RowKit
set_option linter.unusedVariables false
def laid1 : List (String × DataW Unit) := [("math/bits.deBruijn32tab", Rows.laid_math_bits_deBruijn32tab), ("math/bits.deBruijn64tab", Rows.laid_math_bits_deBruijn64tab), ("internal/strconv.uint64pow10", Rows.laid_internal_strconv_uint64pow10)]
theorem pow_data {H : Type} : (Rows.laid_internal_strconv_uint64pow10 : DataW H) = Lib.tabData .u64 Lib.pow10Tab := by kernel_rfl
theorem gTy (g : Nat) (h : Tryd.prog.globalNamed "internal/strconv.uint64pow10" = some g) : (Tryd.prog.globals[g]?).map (·.type) = some 66 := by
  obtain rfl := Option.some.inj (h.symm.trans (by kernel_rfl : Tryd.prog.globalNamed "internal/strconv.uint64pow10" = some (Tryd.prog.globals.findIdx? (·.name == "internal/strconv.uint64pow10")).get!))
  kernel_rfl
theorem tab_of_laid {W : World} (h : laidMetH Tryd.prog laid1 W) : Tab W := by
  rw [MakeChecks.laidMetH_plain _ _ _ (by kernel_rfl)] at h
  obtain ⟨ps, ⟨_, _, _, _, _, _, _, _, _, _, r1, _⟩, _⟩ := h
  obtain ⟨_, _, _, _, _, _, _, _, _, _, r2, _⟩ := r1
  obtain ⟨g, t, cs, fuel, p, q, hg, hty, hvar, hd, _, _⟩ := r2
  obtain rfl := Option.some.inj ((gTy g hg).symm.trans hty)
  refine Lib.tabBelow_of_tabIs ?_
  unfold Lib.TabIs
  rw [pow_data] at hd
  rw [hvar, ← Lib.cells_of_tab Tryd.underlying66 Tryd.underlying57 (by kernel_rfl) (by kernel_rfl) hd]
theorem fits_wf {x : Int} (h : (Lit.int .i64 x).wf = true) : fitsI x := by
  simp [Lit.wf, IntKind.min, IntKind.max, IntKind.signed, IntKind.bits] at h
  unfold fitsI; omega
section
variable {H : Type} {enc : TypeId × Value → H}
theorem open_numsF {W : World} {r : Reach} {base b0 : Nat} {hd : Bool} {v : Value} {d : DataW H} {p : List MemPlace}
    (hval : Value.okWide Tryd.prog W r b0 26 v) (h : DataW.Trod enc Tryd.prog W base (fun _ => true) hd 26 v d p) : ∃ xs : List Int, RdV W v (xs.map iv) ∧ ∀ x ∈ xs, fitsI x := by
  obtain ⟨a, len, cap, rfl⟩ := okWide_slice Tryd.underlying26 hval
  obtain ⟨fuel, hf⟩ := h
  rcases open_ints Tryd.underlying26 Tryd.underlying3 (by kernel_rfl) hf with ⟨hcs, _⟩ | ⟨x, l, c, zs, hcs, _, hl, hm, hz, _, hcell, hwz⟩
  · simp [Value.cells] at hcs
    obtain ⟨rfl, rfl, rfl⟩ := hcs
    exact ⟨[], rdv_nil _, by simp⟩
  · simp [Value.cells] at hcs
    obtain ⟨rfl, rfl, rfl⟩ := hcs
    exact ⟨_, rdv_of_ints hl hm (by simpa using hz) hcell, fun y hy => fits_wf (hwz y (List.mem_of_mem_take hy))⟩
end
end Go.Proofs.YtblhgliegoickaaDoor
