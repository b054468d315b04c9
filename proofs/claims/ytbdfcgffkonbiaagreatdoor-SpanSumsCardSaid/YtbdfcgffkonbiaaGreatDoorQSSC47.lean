/- Span: the argument Asked. Written by wip/tools/gen11o.py. -/
import Derived.Deep.MidRow
import Derived.Test.YtbdfcgffkonbiaaGreatDoorQSSC26
namespace Go.Proofs.YtbdfcgffkonbiaaGreatDoor
open Go Go.ChangeShapes Go.WideShapes Go.ChangeAt Go.RowKit Go.Joins
set_option linter.unusedVariables false
set_option linter.unusedSimpArgs false
set_option maxRecDepth 100000
theorem load_part_op {P : Program} (op : Oper) (a : Act) (x : Operand) {ty : TypeId} {g : Nat} {cs : Array Value} {d : TypeDesc} {w : World} (ho : op.op = .load ty x) (hx : a.eval x = .pointer (some ⟨g, 0, none⟩)) (hc : w.rangeAt g 0 cs.toList)
    (hu : P.underlying ty = some d) (hd : d.isRow = true) (hi : (P.info? ty).map (·.size) = some cs.size) : (execOp a.eval op).run P w = .ok (.value (.agg cs)) w := by
  have h := run_loadVar_mid (P := P) w g 0 ty cs.toList d hc hu hd (by simpa using hi)
  rw [Array.toArray_toList] at h
  unfold execOp
  simp only [ho, hx, Instr.loadAt, Instr.sureAddr, Sem.run_bind, Sem.run_pure, Result.andThen_ok, h]
theorem part_at {w : World} {g : Nat} {CO cs : Array Value} {t : TypeId} {fr : Nat × Nat} (h : w.heap[g]? = some (.cells CO t fr)) (hs : ∀ j, j < cs.size → CO[j]? = cs[j]?) : w.rangeAt g 0 cs.toList := fun j v hv => by
  rw [Array.getElem?_toList] at hv
  have hj : j < cs.size := by
    rcases Nat.lt_or_ge j cs.size with h1 | h1
    · exact h1
    · rw [Array.getElem?_eq_none h1] at hv; cases hv
  rw [Nat.zero_add, cell_of_row w g j CO t fr h, hs j hj, hv]
theorem asked_cells : Tryz.prog.cellsOf 28 = 35 := by kernel_rfl
def RdA (W : World) (CO cs : Array Value) (lv : Nat → List It) (vs : Nat → Int) (f t : List UInt8) (m : Int) : Prop :=
  RdT W cs lv vs ∧ SzT lv ∧ WfT lv ∧ (∀ j, j < 32 → CO[j]? = cs[j]?) ∧ CO[32]? = some (.string (str f)) ∧ CO[33]? = some (.string (str t)) ∧ CO[34]? = some (.int .i64 m) ∧ f.length ≤ maxLen ∧ t.length ≤ maxLen
section
variable {H : Type} {enc : TypeId × Value → H}
theorem open_trunk_at11 {W : World} {base fuel : Nat} {hd : Bool} {cs : Array Value} {y : DataW H × List MemPlace} (hsz : cs.size = 32)
    (hf : DataW.trod enc Tryz.prog W base (fun _ => true) hd fuel 26 cs.toList = some y) : ∃ (lv : Nat → List It) (vs : Nat → Int), RdT W cs lv vs ∧ SzT lv ∧ WfT lv := by
  obtain ⟨xs, n, _, hx, _, hlen, hg⟩ := DataW.trod_struct Tryz.underlying26 hf
  match xs, hlen with
  | [y0, y1], _ =>
    have h0 := hg 0 _ rfl
    have h1 := hg 1 _ rfl
    have hll : cs.toList.length = 32 := by rw [Array.length_toList]; exact hsz
    obtain ⟨A, hA⟩ : ∃ A, A = (cs.toList.drop 0).take 16 := ⟨_, rfl⟩
    obtain ⟨B, hB⟩ : ∃ B, B = (cs.toList.drop 16).take 16 := ⟨_, rfl⟩
    have lA : A.length = 16 := by rw [hA, List.length_take, List.length_drop]; omega
    have lB : B.length = 16 := by rw [hB, List.length_take, List.length_drop]; omega
    have h0' : DataW.trod enc Tryz.prog W base (fun _ => true) hd n 23 A = some y0 := by rw [hA]; exact h0
    have h1' : DataW.trod enc Tryz.prog W base (fun _ => true) hd n 24 B = some y1 := by rw [hB]; exact h1
    obtain ⟨ys, m, _, _, _, hly, hgy⟩ := DataW.trod_array Tryz.underlying23 h0'
    obtain ⟨zs, m2, _, _, _, hlz, hgz⟩ := DataW.trod_array Tryz.underlying24 h1'
    have each : ∀ b, b < 16 → ∃ l : List It, (∃ u, cs[b]? = some u ∧ RdI W u l) ∧ SzI l ∧ WfI l := by
      intro b hb
      have e1 := hgy b hb
      rw [items_cells, Nat.mul_one] at e1
      obtain ⟨u, hu, hu2⟩ := one_of hb lA
      rw [hu2, List.getElem?_eq_getElem (by omega : b < ys.length)] at e1
      obtain ⟨l, q1, q2, q3⟩ := open_items_at e1
      refine ⟨l, ⟨u, ?_, q1⟩, q2, q3⟩
      rw [hA, List.getElem?_take, if_pos hb, List.drop_zero, Array.getElem?_toList] at hu
      exact hu
    have eachV : ∀ b, b < 16 → ∃ x : Int, cs[16 + b]? = some (.int .i64 x) := by
      intro b hb
      have e1 := hgz b hb
      rw [int_cells9, Nat.mul_one] at e1
      obtain ⟨u, hu, hu2⟩ := one_of hb lB
      rw [hu2, List.getElem?_eq_getElem (by omega : b < zs.length)] at e1
      obtain ⟨a, ea, _, _⟩ := DataW.trod_int Tryz.underlying3 e1
      refine ⟨a, ?_⟩
      rw [hB, List.getElem?_take, if_pos hb, List.getElem?_drop, Array.getElem?_toList] at hu
      simp at ea
      rw [hu, ea]
    refine ⟨fun b => if hb : b < 16 then (each b hb).choose else [], fun b => if hb : b < 16 then (eachV b hb).choose else 0, ⟨hsz, fun b hb => ?_, fun b hb => ?_⟩, fun b hb => ?_, fun b hb => ?_⟩
    · simp only [hb, dite_true]; exact (each b hb).choose_spec.1
    · simp only [hb, dite_true]; exact (eachV b hb).choose_spec
    · simp only [hb, dite_true]; exact (each b hb).choose_spec.2.1
    · simp only [hb, dite_true]; exact (each b hb).choose_spec.2.2
theorem open_asked {W : World} {r : Reach} {base b0 : Nat} {hd : Bool} {v : Value} {d : DataW H} {p : List MemPlace}
    (hval : Value.okWide Tryz.prog W r b0 28 v) (h : DataW.Trod enc Tryz.prog W base (fun _ => true) hd 28 v d p) :
    ∃ (CO cs : Array Value) (lv : Nat → List It) (vs : Nat → Int) (f t : List UInt8) (m : Int), v = .agg CO ∧ RdA W CO cs lv vs f t m := by
  obtain ⟨CO, rfl, hsz⟩ := okWide_struct Tryz.underlying28 hval
  rw [asked_cells] at hsz
  obtain ⟨fuel, hf⟩ := h
  obtain ⟨xs, n, _, hx, _, hlen, hg⟩ := DataW.trod_struct Tryz.underlying28 hf
  match xs, hlen with
  | [y0, y1, y2, y3], _ =>
    have h0 := hg 0 _ rfl
    have h1 := hg 1 _ rfl
    have h2 := hg 2 _ rfl
    have h3 := hg 3 _ rfl
    simp only [trunk_cells, int_cells9, string_cells9, Value.cells] at h0 h1 h2 h3
    have hll : CO.toList.length = 35 := by rw [Array.length_toList]; exact hsz
    obtain ⟨cs, hcs⟩ : ∃ cs, cs = ((CO.toList.drop 0).take 32).toArray := ⟨_, rfl⟩
    have hcl : cs.toList = (CO.toList.drop 0).take 32 := by rw [hcs]
    have hs32 : cs.size = 32 := by rw [hcs, List.size_toArray, List.length_take, List.length_drop]; omega
    have h0' : DataW.trod enc Tryz.prog W base (fun _ => true) hd n 26 cs.toList = some y0 := by rw [hcl]; exact h0
    obtain ⟨lv, vs, k1, k2, k3⟩ := open_trunk_at11 hs32 h0'
    obtain ⟨u1, g1, g1b⟩ := one_of (i := 32) (by omega) hll
    obtain ⟨u2, g2, g2b⟩ := one_of (i := 33) (by omega) hll
    obtain ⟨u3, g3, g3b⟩ := one_of (i := 34) (by omega) hll
    have h1' : DataW.trod enc Tryz.prog W base (fun _ => true) hd n 9 [u1] = some y1 := by rw [← g1b]; exact h1
    have h2' : DataW.trod enc Tryz.prog W base (fun _ => true) hd n 9 [u2] = some y2 := by rw [← g2b]; exact h2
    have h3' : DataW.trod enc Tryz.prog W base (fun _ => true) hd n 3 [u3] = some y3 := by rw [← g3b]; exact h3
    obtain ⟨a1, e1, _, w1⟩ := DataW.trod_string Tryz.underlying9 h1'
    obtain ⟨a2, e2, _, w2⟩ := DataW.trod_string Tryz.underlying9 h2'
    obtain ⟨a3, e3, _, _⟩ := DataW.trod_int Tryz.underlying3 h3'
    simp at e1 e2 e3
    rw [Array.getElem?_toList] at g1 g2 g3
    refine ⟨CO, cs, lv, vs, a1.data.toList, a2.data.toList, a3, rfl, k1, k2, k3, fun j hj => ?_, by rw [g1, e1, str_of], by rw [g2, e2, str_of], by rw [g3, e3], by rw [Array.length_toList]; exact w1, by rw [Array.length_toList]; exact w2⟩
    rw [← Array.getElem?_toList, ← Array.getElem?_toList, hcl, List.getElem?_take, if_pos hj, List.drop_zero]
end
end Go.Proofs.YtbdfcgffkonbiaaGreatDoor
