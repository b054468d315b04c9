/- Stores and lists of snaps among the arguments. Written by wip/tools/gen13o.py. -/
/- Edits among the arguments. -/
import Derived.Deep.MidRow
import Derived.Test.YtbdfcgffkonbiaaDoorQST23
import Derived.Test.YtbdfcgffkonbiaaDoorQST24
import Derived.Lib.SmallJoins
import Derived.ProofKit
import Derived.OpenShut
import Derived.ChangeOld
import Derived.Test.YtbdfcgffkonbiaaDoorQST40
namespace Go.Proofs.YtbdfcgffkonbiaaDoor
open Go Go.ChangeShapes Go.WideShapes Go.ChangeAt Go.RowKit Go.Joins
set_option linter.unusedVariables false
set_option linter.unusedSimpArgs false
set_option maxRecDepth 100000
theorem store_cells : Tryd.prog.cellsOf 28 = 35 := by kernel_rfl
section
variable {H : Type} {enc : TypeId × Value → H}
theorem open_trunk_at13 {W : World} {base fuel : Nat} {hd : Bool} {cs : Array Value} {y : DataW H × List MemPlace} (hsz : cs.size = 32)
    (hf : DataW.trod enc Tryd.prog W base (fun _ => true) hd fuel 26 cs.toList = some y) : ∃ (lv : Nat → List It) (vs : Nat → Int), RdT W cs lv vs ∧ SzT lv ∧ WfT lv := by
  obtain ⟨xs, n, _, hx, _, hlen, hg⟩ := DataW.trod_struct Tryd.underlying26 hf
  match xs, hlen with
  | [y0, y1], _ =>
    have h0 := hg 0 _ rfl
    have h1 := hg 1 _ rfl
    have hll : cs.toList.length = 32 := by rw [Array.length_toList]; exact hsz
    obtain ⟨A, hA⟩ : ∃ A, A = (cs.toList.drop 0).take 16 := ⟨_, rfl⟩
    obtain ⟨B, hB⟩ : ∃ B, B = (cs.toList.drop 16).take 16 := ⟨_, rfl⟩
    have lA : A.length = 16 := by rw [hA, List.length_take, List.length_drop]; omega
    have lB : B.length = 16 := by rw [hB, List.length_take, List.length_drop]; omega
    have h0' : DataW.trod enc Tryd.prog W base (fun _ => true) hd n 23 A = some y0 := by rw [hA]; exact h0
    have h1' : DataW.trod enc Tryd.prog W base (fun _ => true) hd n 24 B = some y1 := by rw [hB]; exact h1
    obtain ⟨ys, m, _, _, _, hly, hgy⟩ := DataW.trod_array Tryd.underlying23 h0'
    obtain ⟨zs, m2, _, _, _, hlz, hgz⟩ := DataW.trod_array Tryd.underlying24 h1'
    have each : ∀ b, b < 16 → ∃ l : List It, (∃ u, cs[b]? = some u ∧ RdI W u l) ∧ SzI l ∧ WfI l := by
      intro b hb
      have e1 := hgy b hb
      rw [items_cells, Nat.mul_one] at e1
      obtain ⟨u, hu, hu2⟩ := one_of hb lA
      rw [hu2, List.getElem?_eq_getElem (by omega : b < ys.length)] at e1
      obtain ⟨l, q1, q2, q3⟩ := open_items_at e1
      refine ⟨l, ⟨u, ?_, q1⟩, q2, q3⟩
      rw [hA, List.getElem?_take, if_pos hb, List.drop_zero, Array.getElem?_toList] at hu
      exact hu
    have eachV : ∀ b, b < 16 → ∃ x : Int, cs[16 + b]? = some (.int .i64 x) := by
      intro b hb
      have e1 := hgz b hb
      rw [int_cells9, Nat.mul_one] at e1
      obtain ⟨u, hu, hu2⟩ := one_of hb lB
      rw [hu2, List.getElem?_eq_getElem (by omega : b < zs.length)] at e1
      obtain ⟨a, ea, _, _⟩ := DataW.trod_int Tryd.underlying3 e1
      refine ⟨a, ?_⟩
      rw [hB, List.getElem?_take, if_pos hb, List.getElem?_drop, Array.getElem?_toList] at hu
      simp at ea
      rw [hu, ea]
    refine ⟨fun b => if hb : b < 16 then (each b hb).choose else [], fun b => if hb : b < 16 then (eachV b hb).choose else 0, ⟨hsz, fun b hb => ?_, fun b hb => ?_⟩, fun b hb => ?_, fun b hb => ?_⟩
    · simp only [hb, dite_true]; exact (each b hb).choose_spec.1
    · simp only [hb, dite_true]; exact (eachV b hb).choose_spec
    · simp only [hb, dite_true]; exact (each b hb).choose_spec.2.1
    · simp only [hb, dite_true]; exact (each b hb).choose_spec.2.2
theorem open_store_at {W : World} {base fuel : Nat} {hd : Bool} {CO : Array Value} {y : DataW H × List MemPlace} (hsz : CO.size = 35)
    (hf : DataW.trod enc Tryd.prog W base (fun _ => true) hd fuel 28 CO.toList = some y) : ∃ s : St, RdS W CO s ∧ SzT s.lv ∧ WfT s.lv := by
  obtain ⟨xs, n, _, hx, _, hlen, hg⟩ := DataW.trod_struct Tryd.underlying28 hf
  match xs, hlen with
  | [y0, y1, y2, y3], _ =>
    have h0 := hg 0 _ rfl
    have h1 := hg 1 _ rfl
    have h2 := hg 2 _ rfl
    have h3 := hg 3 _ rfl
    have hll : CO.toList.length = 35 := by rw [Array.length_toList]; exact hsz
    have h0' : DataW.trod enc Tryd.prog W base (fun _ => true) hd n 26 (tC CO).toList = some y0 := h0
    obtain ⟨lv, vs, k1, k2, k3⟩ := open_trunk_at13 (tC_size hsz) h0'
    obtain ⟨u1, g1, g1b⟩ := one_of (i := 32) (by omega) hll
    obtain ⟨u2, g2, g2b⟩ := one_of (i := 33) (by omega) hll
    obtain ⟨u3, g3, g3b⟩ := one_of (i := 34) (by omega) hll
    have h1' : DataW.trod enc Tryd.prog W base (fun _ => true) hd n 3 [u1] = some y1 := by rw [← g1b]; exact h1
    have h2' : DataW.trod enc Tryd.prog W base (fun _ => true) hd n 3 [u2] = some y2 := by rw [← g2b]; exact h2
    have h3' : DataW.trod enc Tryd.prog W base (fun _ => true) hd n 3 [u3] = some y3 := by rw [← g3b]; exact h3
    obtain ⟨a1, e1, _, w1⟩ := DataW.trod_int Tryd.underlying3 h1'
    obtain ⟨a2, e2, _, w2⟩ := DataW.trod_int Tryd.underlying3 h2'
    obtain ⟨a3, e3, _, w3⟩ := DataW.trod_int Tryd.underlying3 h3'
    simp at e1 e2 e3
    rw [Array.getElem?_toList] at g1 g2 g3
    exact ⟨⟨lv, vs, a1, a2, a3⟩, ⟨hsz, k1, by rw [g1, e1], by rw [g2, e2], by rw [g3, e3]⟩, k2, k3⟩
theorem open_store {W : World} {r : Reach} {base b0 : Nat} {hd : Bool} {v : Value} {d : DataW H} {p : List MemPlace}
    (hval : Value.okWide Tryd.prog W r b0 28 v) (h : DataW.Trod enc Tryd.prog W base (fun _ => true) hd 28 v d p) :
    ∃ (cs : Array Value) (s : St), v = .agg cs ∧ RdS W cs s ∧ SzT s.lv ∧ WfT s.lv := by
  obtain ⟨CO, rfl, hsz⟩ := okWide_struct Tryd.underlying28 hval
  rw [store_cells] at hsz
  obtain ⟨fuel, hf⟩ := h
  obtain ⟨s, h1, h2, h3⟩ := open_store_at hsz (by simpa [Value.cells] using hf)
  exact ⟨CO, s, rfl, h1, h2, h3⟩
end
end Go.Proofs.YtbdfcgffkonbiaaDoor
namespace Go.Proofs.YtbdfcgffkonbiaaDoor
open Go.ChangeMaps (open_string)
open Go Go.ChangeShapes Go.WideShapes Go.ChangeAt Go.RowKit Go.Joins
set_option linter.unusedVariables false
set_option linter.unusedSimpArgs false
set_option maxRecDepth 100000
theorem edit_cells : Tryd.prog.cellsOf 68 = 4 := by kernel_rfl
section
variable {H : Type} {enc : TypeId × Value → H}
theorem edit_of {W : World} {base : Nat} {sp : Nat → Bool} {fuel : Nat} {u0 u1 u2 u3 : Value} {hd : Bool} {y : DataW H × List MemPlace}
    (hy : DataW.trod enc Tryd.prog W base sp hd fuel 68 [u0, u1, u2, u3] = some y) :
    ∃ x : Ed, [u0, u1, u2, u3] = edC x ∧ x.key.length ≤ maxLen ∧ x.v.s.length ≤ maxLen ∧ x.v.Wf := by
  obtain ⟨xs, n, _, hx, _, hlen, hg⟩ := DataW.trod_struct Tryd.underlying68 hy
  match xs, hlen with
  | [y0, y1], _ =>
    have h0 := hg 0 _ rfl
    have h1 := hg 1 _ rfl
    simp [edit_cells, value_cells9, int_cells9, string_cells9] at h0 h1
    obtain ⟨a0, e0, _, w0⟩ := DataW.trod_string Tryd.underlying9 h0
    obtain ⟨ys, m, _, hy1, _, hlen1, hg1⟩ := DataW.trod_struct Tryd.underlying43 h1
    match ys, hlen1 with
    | [z0, z1, z2], _ =>
      have k0 := hg1 0 _ rfl
      have k1 := hg1 1 _ rfl
      have k2 := hg1 2 _ rfl
      simp [int_cells9, int64_cells9, string_cells9] at k0 k1 k2
      obtain ⟨b0, f0, _, x0⟩ := DataW.trod_int Tryd.underlying3 k0
      obtain ⟨b1, f1, _, x1⟩ := DataW.trod_int Tryd.underlying2 k1
      obtain ⟨b2, f2, _, x2⟩ := DataW.trod_string Tryd.underlying9 k2
      simp at e0 f0 f1 f2
      subst e0 f0 f1 f2
      refine ⟨⟨a0.data.toList, ⟨b0, b1, b2.data.toList⟩⟩, ?_, ?_, ?_, ⟨i64_wf x0, i64_wf x1⟩⟩
      · unfold edC; rw [str_of, str_of]
      · show a0.data.toList.length ≤ maxLen
        rw [Array.length_toList]; exact w0
      · show b2.data.toList.length ≤ maxLen
        rw [Array.length_toList]; exact x2
theorem open_edits_at {W : World} {base : Nat} {fuel : Nat} {hd : Bool} {v : Value} {y : DataW H × List MemPlace}
    (hf : DataW.trod enc Tryd.prog W base (fun _ => true) hd fuel 57 [v] = some y) : ∃ l : List Ed, RdE W v l ∧ SzE l ∧ WfE l := by
  rcases DataW.trod_slice Tryd.underlying57 hf with ⟨hcs, _⟩ | ⟨x, l, c, elems, rest, n, _, hcs, _, hb, hl, hm, hlen, hel, _, _⟩
  · simp at hcs
    subst hcs
    exact ⟨[], rdk_nil W, fun x hx => by simp at hx, fun x hx => by simp at hx⟩
  · simp at hcs
    subst hcs
    obtain ⟨len, rfl⟩ : ∃ len, len = l := ⟨_, rfl⟩
    obtain ⟨cap, rfl⟩ : ∃ cap, cap = c := ⟨_, rfl⟩
    by_cases h0 : len = 0
    · subst h0
      exact ⟨[], ⟨some x, cap, rfl, Nat.zero_le _, hm, by simp, by simp⟩, fun x hx => by simp at hx, fun x hx => by simp at hx⟩
    obtain ⟨b, off, sp⟩ := x
    have hs : sp = none := by
      have h1 := hel 0 (by omega)
      rw [List.getElem?_eq_getElem (by omega : 0 < elems.length), Option.bind_eq_some_iff] at h1
      obtain ⟨cs0, q2, _⟩ := h1
      rw [edit_cells] at q2
      have q3 := World.cells?_some q2
      have q4 := q3.2.2 0 (by omega)
      have hl0 : 0 < cs0.length := by have := q3.2.1; omega
      rw [List.getElem?_eq_getElem hl0] at q4
      simpa [Addr.add] using World.cell?_spot q4
    subst hs
    have each : ∀ j, j < len → ∃ it : Ed, (∀ i, i < 4 → W.cell? ⟨b, off + (j * 4 + i), none⟩ = (edC it)[i]?) ∧ it.key.length ≤ maxLen ∧ it.v.s.length ≤ maxLen ∧ it.v.Wf := by
      intro j hj
      have h1 := hel j hj
      rw [List.getElem?_eq_getElem (by omega : j < elems.length), Option.bind_eq_some_iff] at h1
      obtain ⟨cs, hc1, hy⟩ := h1
      rw [edit_cells] at hc1
      obtain ⟨_, hl5, hcell⟩ := World.cells?_some hc1
      match cs, hl5 with
      | [u0, u1, u2, u3], _ =>
        obtain ⟨it, hx, q1, q2, q3⟩ := edit_of hy
        refine ⟨it, fun i hi => ?_, q1, q2, q3⟩
        have := hcell i hi
        rw [hx, Addr.add_lit, Addr.add_lit, Nat.add_assoc] at this
        exact this
    have pick : ∃ f : Nat → Ed, ∀ j, j < len → (∀ i, i < 4 → W.cell? ⟨b, off + (j * 4 + i), none⟩ = (edC (f j))[i]?) ∧ (f j).key.length ≤ maxLen ∧ (f j).v.s.length ≤ maxLen ∧ (f j).v.Wf := by
      refine ⟨fun j => if h : j < len then (each j h).choose else ⟨[], ⟨0, 0, []⟩⟩, fun j hj => ?_⟩
      simp only [hj, dite_true]
      exact (each j hj).choose_spec
    obtain ⟨f, hf2⟩ := pick
    have hL : ((List.range len).map f).length = len := by simp
    have mem : ∀ y ∈ (List.range len).map f, ∃ j, j < len ∧ y = f j := fun y hy => by
      obtain ⟨j, hj, rfl⟩ := List.mem_map.1 hy
      exact ⟨j, List.mem_range.1 hj, rfl⟩
    refine ⟨(List.range len).map f, ⟨some ⟨b, off, none⟩, cap, by rw [hL], by rw [hL]; exact hl, hm, by simp, ?_⟩, ?_, ?_⟩
    · rw [hL]
      intro h0
      have c0 := (hf2 0 h0).1 0 (by omega)
      have hb0 : b < W.heap.size := by
        have : W.cell? ⟨b, off + (0 * 4 + 0), none⟩ = some (.string (str (f 0).key)) := c0
        exact World.block_lt_of_cell? W _ this
      refine ⟨b, off, rfl, hb0, fun t ht => ?_⟩
      have hj : t / 4 < len := by omega
      have h1 := (hf2 (t / 4) hj).1 (t % 4) (by omega)
      have e1 : t / 4 * 4 + t % 4 = t := by omega
      have h2 := flat_get edC_len ((List.range len).map f) (t / 4) (t % 4) (by rw [hL]; exact hj) (by omega)
      rw [e1] at h1 h2
      rw [h1, h2]
      simp
    · intro y hy
      obtain ⟨j, hj, rfl⟩ := mem y hy
      exact ⟨(hf2 j hj).2.1, (hf2 j hj).2.2.1⟩
    · intro y hy
      obtain ⟨j, hj, rfl⟩ := mem y hy
      exact (hf2 j hj).2.2.2
theorem open_edits {W : World} {r : Reach} {base b0 : Nat} {hd : Bool} {v : Value} {d : DataW H} {p : List MemPlace}
    (hval : Value.okWide Tryd.prog W r b0 57 v) (h : DataW.Trod enc Tryd.prog W base (fun _ => true) hd 57 v d p) : ∃ l : List Ed, RdE W v l ∧ SzE l ∧ WfE l := by
  obtain ⟨a, len, cap, rfl⟩ := okWide_slice Tryd.underlying57 hval
  obtain ⟨fuel, hf⟩ := h
  exact open_edits_at (by simpa [Value.cells] using hf)
end
end Go.Proofs.YtbdfcgffkonbiaaDoor
