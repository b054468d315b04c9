/- Lex: what the row's listed variables give a walk. Written by wip/tools/gen16o.py. -/
import Derived.Test.YtkmhjodnddfkeaaDoorRows
import Derived.Test.YtkmhjodnddfkeaaDoorQLBC10
import Derived.ProofKit
import Derived.LaidMore
import Derived.OpenShut
import Derived.Stop.Joined
namespace Go.Proofs.YtkmhjodnddfkeaaDoor
open Go Go.ChangeShapes Go.WideShapes Go.ChangeAt Go.RowKit
set_option linter.unusedVariables false
def laid1 : List (String × DataW Unit) := [("math/bits.deBruijn32tab", Rows.laid_math_bits_deBruijn32tab), ("math/bits.deBruijn64tab", Rows.laid_math_bits_deBruijn64tab), ("internal/strconv.uint64pow10", Rows.laid_internal_strconv_uint64pow10), ("strconv.ErrRange", Rows.laid_strconv_ErrRange), ("strconv.ErrSyntax", Rows.laid_strconv_ErrSyntax), ("plenum/lex.words", Rows.laid_plenum_lex_words)]
theorem gW : Tryd.prog.globalNamed "plenum/lex.words" = some 0 := by kernel_rfl
theorem tW : (Tryd.prog.globals[0]?).map (·.type) = some 45 := by kernel_rfl
theorem gR : Tryd.prog.globalNamed "strconv.ErrRange" = some 2 := by kernel_rfl
theorem tR : (Tryd.prog.globals[2]?).map (·.type) = some 40 := by kernel_rfl
theorem cStr : Tryd.prog.cellsOf 9 = 1 := by kernel_rfl
theorem cWords : Tryd.prog.cellsOf 45 = 22 := by kernel_rfl
theorem laid_words {H : Type} : (Rows.laid_plenum_lex_words : DataW H) = .agg (wordsL.map fun l => .lit (.string l)) := by kernel_rfl
theorem iface_of_trod {H : Type} {enc : TypeId × Value → H} {w : World} {base : Nat} {sp : Nat → Bool} {held : Bool} {fuel : Nat} {cs : List Value} {n : String} {d : DataW H} {q : List MemPlace}
    (h : DataW.trod enc Tryd.prog w base sp held fuel 40 cs = some (.iface n d, q)) : ∃ u v, cs = [.iface u v] := by
  obtain ⟨m, hm⟩ : ∃ m, Tryd.prog.underlying 40 = some (.interface m) := ⟨_, Tryd.underlying40⟩
  cases fuel with
  | zero => simp [DataW.trod] at h
  | succ k =>
    unfold DataW.trod at h
    rw [hm] at h
    split at h <;> first | exact ⟨_, _, rfl⟩ | simp_all
theorem var_block {W : World} {n : String} {g : Nat} {cs : Array Value} (hg : Tryd.prog.globalNamed n = some g) (h : W.var? Tryd.prog n = some cs) : ∃ t fr, W.heap[g]? = some (.cells cs t fr) := by
  simp only [World.var?, hg, Option.bind_some] at h
  split at h
  · rename_i cs' t fr e
    obtain rfl := Option.some.inj h
    exact ⟨_, _, e⟩
  · cases h
theorem tab_of_laid {W : World} (h : laidMetH Tryd.prog laid1 W) : TabX W := by
  rw [MakeChecks.laidMetH_plain _ _ _ (by kernel_rfl)] at h
  obtain ⟨ps, ⟨_, _, _, _, _, _, _, _, _, _, r1, _⟩, _⟩ := h
  obtain ⟨_, _, _, _, _, _, _, _, _, _, r2, _⟩ := r1
  obtain ⟨_, _, _, _, _, _, _, _, _, _, r3, _⟩ := r2
  obtain ⟨g3, t3, cs3, f3, p3, q3, hg3, ht3, hv3, hd3, r4, _⟩ := r3
  obtain ⟨_, _, _, _, _, _, _, _, _, _, r5, _⟩ := r4
  obtain ⟨g5, t5, cs5, f5, p5, q5, hg5, ht5, hv5, hd5, _, _⟩ := r5
  obtain rfl := Option.some.inj (gW.symm.trans hg5)
  obtain rfl := Option.some.inj (tW.symm.trans ht5)
  obtain rfl := Option.some.inj (gR.symm.trans hg3)
  obtain rfl := Option.some.inj (tR.symm.trans ht3)
  obtain ⟨u, v, e3⟩ := iface_of_trod hd3
  have c3 := World.var?_cell hg3 hv3 0
  have e3' : cs3[0]? = some (.iface u v) := by
    rw [← Array.getElem?_toList, e3]; rfl
  rw [e3'] at c3
  have hs2 := World.block_lt_of_cell? W _ c3
  refine ⟨?_, by simpa using hs2, _, c3, .inr ⟨u, v, rfl⟩⟩
  obtain ⟨t, fr, hb⟩ := var_block hg5 hv5
  refine ⟨t, fr, ?_⟩
  rw [hb]
  obtain ⟨xs, m1, rfl, hx1, hlen, hn, hel⟩ := DataW.trod_array Tryd.underlying45 hd5
  simp only [Prod.mk.injEq] at hx1
  have hx := hx1.1
  rw [laid_words] at hx
  simp only [DataW.agg.injEq] at hx
  rw [cWords] at hlen
  have e5 : cs5.toList = wordsL.map fun l => Value.string (str l) := by
    apply List.ext_getElem?
    intro i
    by_cases hi : i < 22
    · have h1 := hel i hi
      rw [cStr, Nat.mul_one] at h1
      obtain ⟨x, hxi⟩ : ∃ x, xs[i]? = some x := ⟨xs[i]'(by omega), by simp [hn, hi]⟩
      rw [hxi] at h1
      obtain ⟨s, e1, e2, _⟩ := DataW.trod_string Tryd.underlying9 h1
      have h3 : (xs.map (·.1))[i]? = some (.lit (.string s.data.toList)) := by rw [List.getElem?_map, hxi, e2]; rfl
      rw [← hx, List.getElem?_map] at h3
      have hw : i < wordsL.length := hi
      rw [List.getElem?_eq_getElem hw] at h3
      simp only [Option.map_some, Option.some.injEq, DataW.lit.injEq, Lit.string.injEq] at h3
      have h6 : cs5.toList[i]? = some (.string s) := by
        have := congrArg (fun l => l[0]?) e1
        simpa [List.getElem?_take] using this
      rw [h6, List.getElem?_map, List.getElem?_eq_getElem hw, h3]
      rfl
    · rw [List.getElem?_eq_none (by omega), List.getElem?_eq_none (by rw [List.length_map]; have : wordsL.length = 22 := rfl; omega)]
  have : cs5 = wordsA := by
    unfold wordsA
    rw [← e5]
  rw [this]
end Go.Proofs.YtkmhjodnddfkeaaDoor
