/- Keys: what the row's listed variable gives a walk: the table of bytes. -/
import Derived.Test.YtbdfcgffkonbiaaDoorRows
import Derived.Test.YtbdfcgffkonbiaaDoorQST3
import Derived.ProofKit
import Derived.LaidMore
import Derived.OpenShut
import Derived.Stop.Joined
namespace Go.Proofs.YtbdfcgffkonbiaaDoor
open Go Go.ChangeShapes Go.WideShapes Go.ChangeAt Go.RowKit
set_option linter.unusedVariables false
def laid1 : List (String × DataW Unit) := [("plenum/key.allowed", Rows.laid_plenum_key_allowed)]
theorem gTab : Tryd.prog.globalNamed "plenum/key.allowed" = some 0 := by kernel_rfl
theorem tTab : (Tryd.prog.globals[0]?).map (·.type) = some 150 := by kernel_rfl
theorem cU64 : Tryd.prog.cellsOf 128 = 1 := by kernel_rfl
theorem cTab : Tryd.prog.cellsOf 150 = 2 := by kernel_rfl
def tabL : List Int := [288195191779622912, 576460745860972544]
theorem laid_tab {H : Type} : (Rows.laid_plenum_key_allowed : DataW H) = .agg (tabL.map fun n => .lit (.int .u64 n)) := rfl
theorem tab_of_laid {W : World} (h : laidMetH Tryd.prog laid1 W) : TabAt W := by
  rw [MakeChecks.laidMetH_plain _ _ _ (by kernel_rfl)] at h
  obtain ⟨ps, ⟨g0, t0, cs0, f0, p0, q0, hg0, ht0, hv0, hd0, _, _⟩, _, _⟩ := h
  obtain rfl := Option.some.inj (gTab.symm.trans hg0)
  obtain rfl := Option.some.inj (tTab.symm.trans ht0)
  obtain ⟨xs, m1, rfl, hx1, hlen, hn, hel⟩ := DataW.trod_array Tryd.underlying150 hd0
  simp only [Prod.mk.injEq] at hx1
  have hx := hx1.1
  rw [laid_tab] at hx
  simp only [DataW.agg.injEq] at hx
  rw [cTab] at hlen
  have cell : ∀ i, i < 2 → W.cell? ⟨0, i, none⟩ = some (.int .u64 (tabL.getD i 0)) := by
    intro i hi
    have h1 := hel i hi
    rw [cU64, Nat.mul_one] at h1
    obtain ⟨x, hxi⟩ : ∃ x, xs[i]? = some x := ⟨xs[i]'(by omega), by simp [hn, hi]⟩
    rw [hxi] at h1
    obtain ⟨k, e1, e2, _⟩ := DataW.trod_int Tryd.underlying128 h1
    have h3 : (xs.map (·.1))[i]? = some (.lit (.int .u64 k)) := by rw [List.getElem?_map, hxi, e2]; rfl
    rw [← hx, List.getElem?_map] at h3
    have h4 : tabL[i]? = some (tabL.getD i 0) := by
      have : i < tabL.length := hi
      simp [this]
    rw [h4] at h3
    simp at h3
    have h5 := World.var?_cell hg0 hv0 i
    have h6 : cs0[i]? = some (.int .u64 k) := by
      have : (cs0.toList.drop i)[0]? = some (.int .u64 k) := by
        have := congrArg (fun l => l[0]?) e1
        simpa [List.getElem?_take] using this
      simpa using this
    rw [h5, h6]
    simp [h3]
  refine ⟨?_, cell 0 (by decide), cell 1 (by decide)⟩
  have := World.block_lt_of_cell? W _ (cell 0 (by decide))
  simpa using this
end Go.Proofs.YtbdfcgffkonbiaaDoor
