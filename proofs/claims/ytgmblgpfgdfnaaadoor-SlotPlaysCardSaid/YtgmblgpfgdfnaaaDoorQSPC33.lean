/- Slots: the law SlotPlays, as its row has it. Written by wip/tools/gen29z2.py. -/
/- Quorums: what the row's listed variable gives a walk: the library's table. -/
import Derived.Test.YtgmblgpfgdfnaaaDoorQSPC32
import Derived.Test.YtgmblgpfgdfnaaaDoorRows
import Derived.Test.YtgmblgpfgdfnaaaDoorQSPC4
import Derived.ProofKit
import Derived.LaidMore
import Derived.OpenShut
import Derived.Stop.Joined
namespace Go.Proofs.YtgmblgpfgdfnaaaDoor
open Go Go.RowKit
/-- The law SlotPlays, as its row has it. -/
theorem plays_row (n : Int) (v : Value) (l : List Sd) (w : World) (hn : (Lit.int .i64 n).wf = true) (h : RdK 4 sdC w v l) (hT : TabAt w) :
    Calls Tryd.prog 4 #[.int .i64 n, v] w fun e w' => e = .returned (.bool true) ∧ Below w.heap.size w w' :=
  plays_walk n v l w (by simp [Lit.wf, IntKind.min, IntKind.max, IntKind.signed, IntKind.bits] at hn; omega) h hT
end Go.Proofs.YtgmblgpfgdfnaaaDoor
namespace Go.Proofs.YtgmblgpfgdfnaaaDoor
open Go Go.ChangeShapes Go.WideShapes Go.ChangeAt Go.RowKit
set_option linter.unusedVariables false
def laid1 : List (String × DataW Unit) := [("math/bits.deBruijn64tab", Rows.laid_math_bits_deBruijn64tab)]
theorem gTab : Tryd.prog.globalNamed "math/bits.deBruijn64tab" = some 0 := by kernel_rfl
theorem tTab : (Tryd.prog.globals[0]?).map (·.type) = some 89 := by kernel_rfl
theorem cU8 : Tryd.prog.cellsOf 5 = 1 := by kernel_rfl
theorem cTab : Tryd.prog.cellsOf 89 = 64 := by kernel_rfl
theorem laid_tab {H : Type} : (Rows.laid_math_bits_deBruijn64tab : DataW H) = .agg (tabN.map fun n => .lit (.int .u8 (n : Nat))) := rfl
theorem tab_of_laid {W : World} (h : laidMetH Tryd.prog laid1 W) : TabAt W := by
  rw [MakeChecks.laidMetH_plain _ _ _ (by kernel_rfl)] at h
  obtain ⟨ps, ⟨g0, t0, cs0, f0, p0, q0, hg0, ht0, hv0, hd0, _, _⟩, _, _⟩ := h
  obtain rfl := Option.some.inj (gTab.symm.trans hg0)
  obtain rfl := Option.some.inj (tTab.symm.trans ht0)
  obtain ⟨xs, m1, rfl, hx1, hlen, hn, hel⟩ := DataW.trod_array Tryd.underlying89 hd0
  simp only [Prod.mk.injEq] at hx1
  have hx := hx1.1
  rw [laid_tab] at hx
  simp only [DataW.agg.injEq] at hx
  rw [cTab] at hlen
  have cell : ∀ i, i < 64 → W.cell? ⟨0, i, none⟩ = some (.int .u8 (tabN.getD i 0 : Nat)) := by
    intro i hi
    have h1 := hel i hi
    rw [cU8, Nat.mul_one] at h1
    obtain ⟨x, hxi⟩ : ∃ x, xs[i]? = some x := ⟨xs[i]'(by omega), by simp [hn, hi]⟩
    rw [hxi] at h1
    obtain ⟨k, e1, e2, _⟩ := DataW.trod_int Tryd.underlying5 h1
    have h3 : (xs.map (·.1))[i]? = some (.lit (.int .u8 k)) := by rw [List.getElem?_map, hxi, e2]; rfl
    rw [← hx, List.getElem?_map] at h3
    have h4 : tabN[i]? = some (tabN.getD i 0) := by
      have : i < tabN.length := hi
      simp [this]
    rw [h4] at h3
    simp at h3
    have h5 := World.var?_cell hg0 hv0 i
    have h6 : cs0[i]? = some (.int .u8 k) := by
      have : (cs0.toList.drop i)[0]? = some (.int .u8 k) := by
        have := congrArg (fun l => l[0]?) e1
        simpa [List.getElem?_take] using this
      simpa using this
    rw [h5, h6]
    simp [h3]
  refine ⟨?_, cell⟩
  have := World.block_lt_of_cell? W _ (cell 0 (by decide))
  simpa using this
end Go.Proofs.YtgmblgpfgdfnaaaDoor
