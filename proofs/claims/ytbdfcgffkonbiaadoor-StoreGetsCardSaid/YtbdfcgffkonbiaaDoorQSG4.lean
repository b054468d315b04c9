/- Stores and lists of snaps among the arguments. Written by wip/tools/gen13o.py. -/
import Derived.Deep.MidRow
import Derived.Test.YtbdfcgffkonbiaaDoorQST23
import Derived.Test.YtbdfcgffkonbiaaDoorQST24
import Derived.Lib.SmallJoins
import Derived.ProofKit
import Derived.OpenShut
import Derived.ChangeOld
namespace Go.Proofs.YtbdfcgffkonbiaaDoor
open Go Go.ChangeShapes Go.WideShapes Go.ChangeAt Go.RowKit Go.Joins
set_option linter.unusedVariables false
set_option linter.unusedSimpArgs false
set_option maxRecDepth 100000
theorem store_cells : Tryd.prog.cellsOf 28 = 35 := by kernel_rfl
section
variable {H : Type} {enc : TypeId × Value → H}
theorem open_trunk_at13 {W : World} {base fuel : Nat} {hd : Bool} {cs : Array Value} {y : DataW H × List MemPlace} (hsz : cs.size = 32)
    (hf : DataW.trod enc Tryd.prog W base (fun _ => true) hd fuel 26 cs.toList = some y) : ∃ (lv : Nat → List It) (vs : Nat → Int), RdT W cs lv vs ∧ SzT lv ∧ WfT lv := by
  obtain ⟨xs, n, _, hx, _, hlen, hg⟩ := DataW.trod_struct Tryd.underlying26 hf
  match xs, hlen with
  | [y0, y1], _ =>
    have h0 := hg 0 _ rfl
    have h1 := hg 1 _ rfl
    have hll : cs.toList.length = 32 := by rw [Array.length_toList]; exact hsz
    obtain ⟨A, hA⟩ : ∃ A, A = (cs.toList.drop 0).take 16 := ⟨_, rfl⟩
    obtain ⟨B, hB⟩ : ∃ B, B = (cs.toList.drop 16).take 16 := ⟨_, rfl⟩
    have lA : A.length = 16 := by rw [hA, List.length_take, List.length_drop]; omega
    have lB : B.length = 16 := by rw [hB, List.length_take, List.length_drop]; omega
    have h0' : DataW.trod enc Tryd.prog W base (fun _ => true) hd n 23 A = some y0 := by rw [hA]; exact h0
    have h1' : DataW.trod enc Tryd.prog W base (fun _ => true) hd n 24 B = some y1 := by rw [hB]; exact h1
    obtain ⟨ys, m, _, _, _, hly, hgy⟩ := DataW.trod_array Tryd.underlying23 h0'
    obtain ⟨zs, m2, _, _, _, hlz, hgz⟩ := DataW.trod_array Tryd.underlying24 h1'
    have each : ∀ b, b < 16 → ∃ l : List It, (∃ u, cs[b]? = some u ∧ RdI W u l) ∧ SzI l ∧ WfI l := by
      intro b hb
      have e1 := hgy b hb
      rw [items_cells, Nat.mul_one] at e1
      obtain ⟨u, hu, hu2⟩ := one_of hb lA
      rw [hu2, List.getElem?_eq_getElem (by omega : b < ys.length)] at e1
      obtain ⟨l, q1, q2, q3⟩ := open_items_at e1
      refine ⟨l, ⟨u, ?_, q1⟩, q2, q3⟩
      rw [hA, List.getElem?_take, if_pos hb, List.drop_zero, Array.getElem?_toList] at hu
      exact hu
    have eachV : ∀ b, b < 16 → ∃ x : Int, cs[16 + b]? = some (.int .i64 x) := by
      intro b hb
      have e1 := hgz b hb
      rw [int_cells9, Nat.mul_one] at e1
      obtain ⟨u, hu, hu2⟩ := one_of hb lB
      rw [hu2, List.getElem?_eq_getElem (by omega : b < zs.length)] at e1
      obtain ⟨a, ea, _, _⟩ := DataW.trod_int Tryd.underlying3 e1
      refine ⟨a, ?_⟩
      rw [hB, List.getElem?_take, if_pos hb, List.getElem?_drop, Array.getElem?_toList] at hu
      simp at ea
      rw [hu, ea]
    refine ⟨fun b => if hb : b < 16 then (each b hb).choose else [], fun b => if hb : b < 16 then (eachV b hb).choose else 0, ⟨hsz, fun b hb => ?_, fun b hb => ?_⟩, fun b hb => ?_, fun b hb => ?_⟩
    · simp only [hb, dite_true]; exact (each b hb).choose_spec.1
    · simp only [hb, dite_true]; exact (eachV b hb).choose_spec
    · simp only [hb, dite_true]; exact (each b hb).choose_spec.2.1
    · simp only [hb, dite_true]; exact (each b hb).choose_spec.2.2
theorem open_store_at {W : World} {base fuel : Nat} {hd : Bool} {CO : Array Value} {y : DataW H × List MemPlace} (hsz : CO.size = 35)
    (hf : DataW.trod enc Tryd.prog W base (fun _ => true) hd fuel 28 CO.toList = some y) : ∃ s : St, RdS W CO s ∧ SzT s.lv ∧ WfT s.lv := by
  obtain ⟨xs, n, _, hx, _, hlen, hg⟩ := DataW.trod_struct Tryd.underlying28 hf
  match xs, hlen with
  | [y0, y1, y2, y3], _ =>
    have h0 := hg 0 _ rfl
    have h1 := hg 1 _ rfl
    have h2 := hg 2 _ rfl
    have h3 := hg 3 _ rfl
    have hll : CO.toList.length = 35 := by rw [Array.length_toList]; exact hsz
    have h0' : DataW.trod enc Tryd.prog W base (fun _ => true) hd n 26 (tC CO).toList = some y0 := h0
    obtain ⟨lv, vs, k1, k2, k3⟩ := open_trunk_at13 (tC_size hsz) h0'
    obtain ⟨u1, g1, g1b⟩ := one_of (i := 32) (by omega) hll
    obtain ⟨u2, g2, g2b⟩ := one_of (i := 33) (by omega) hll
    obtain ⟨u3, g3, g3b⟩ := one_of (i := 34) (by omega) hll
    have h1' : DataW.trod enc Tryd.prog W base (fun _ => true) hd n 3 [u1] = some y1 := by rw [← g1b]; exact h1
    have h2' : DataW.trod enc Tryd.prog W base (fun _ => true) hd n 3 [u2] = some y2 := by rw [← g2b]; exact h2
    have h3' : DataW.trod enc Tryd.prog W base (fun _ => true) hd n 3 [u3] = some y3 := by rw [← g3b]; exact h3
    obtain ⟨a1, e1, _, w1⟩ := DataW.trod_int Tryd.underlying3 h1'
    obtain ⟨a2, e2, _, w2⟩ := DataW.trod_int Tryd.underlying3 h2'
    obtain ⟨a3, e3, _, w3⟩ := DataW.trod_int Tryd.underlying3 h3'
    simp at e1 e2 e3
    rw [Array.getElem?_toList] at g1 g2 g3
    exact ⟨⟨lv, vs, a1, a2, a3⟩, ⟨hsz, k1, by rw [g1, e1], by rw [g2, e2], by rw [g3, e3]⟩, k2, k3⟩
theorem open_store {W : World} {r : Reach} {base b0 : Nat} {hd : Bool} {v : Value} {d : DataW H} {p : List MemPlace}
    (hval : Value.okWide Tryd.prog W r b0 28 v) (h : DataW.Trod enc Tryd.prog W base (fun _ => true) hd 28 v d p) :
    ∃ (cs : Array Value) (s : St), v = .agg cs ∧ RdS W cs s ∧ SzT s.lv ∧ WfT s.lv := by
  obtain ⟨CO, rfl, hsz⟩ := okWide_struct Tryd.underlying28 hval
  rw [store_cells] at hsz
  obtain ⟨fuel, hf⟩ := h
  obtain ⟨s, h1, h2, h3⟩ := open_store_at hsz (by simpa [Value.cells] using hf)
  exact ⟨CO, s, rfl, h1, h2, h3⟩
end
end Go.Proofs.YtbdfcgffkonbiaaDoor
