/- Trunks: TrunkReplaces, its ways joined; its argument. Written by wip/tools/gen10w.py. -/
/- Keys: what the row's listed variable gives a walk: the table of bytes. -/
import Derived.Test.YtmjedjhkhjiigaaDoorQTRC44
import Derived.Test.YtmjedjhkhjiigaaDoorQTRC45
import Derived.Test.YtmjedjhkhjiigaaDoorQTRC46
import Derived.Test.YtmjedjhkhjiigaaDoorQTRC47
import Derived.Test.YtmjedjhkhjiigaaDoorQTRC48
import Derived.Test.YtmjedjhkhjiigaaDoorRows
import Derived.Test.YtmjedjhkhjiigaaDoorQTRC8
import Derived.ProofKit
import Derived.LaidMore
import Derived.OpenShut
import Derived.Stop.Joined
namespace Go.Proofs.YtmjedjhkhjiigaaDoor
open Go Go.ChangeShapes Go.WideShapes Go.ChangeAt Go.RowKit Go.Joins
set_option linter.unusedVariables false
set_option linter.unusedSimpArgs false
set_option maxRecDepth 100000
theorem other_cells : Tryd.prog.cellsOf 53 = 35 := by kernel_rfl
def RdO (W : World) (CO cs : Array Value) (lv : Nat → List It) (vs : Nat → Int) (b ver : Int) (vl : Value) (l : List It) : Prop :=
  RdT W cs lv vs ∧ SzT lv ∧ RdI W vl l ∧ SzI l ∧ (∀ j, j < 32 → CO[j]? = cs[j]?) ∧ CO[32]? = some (.int .i64 b) ∧ CO[33]? = some (.int .i64 ver) ∧ CO[34]? = some vl
section
variable {H : Type} {enc : TypeId × Value → H}
theorem open_trunk_at {W : World} {base fuel : Nat} {hd : Bool} {cs : Array Value} {y : DataW H × List MemPlace} (hsz : cs.size = 32)
    (hf : DataW.trod enc Tryd.prog W base (fun _ => true) hd fuel 26 cs.toList = some y) : ∃ (lv : Nat → List It) (vs : Nat → Int), RdT W cs lv vs ∧ SzT lv ∧ WfT lv := by
  obtain ⟨xs, n, _, hx, _, hlen, hg⟩ := DataW.trod_struct Tryd.underlying26 hf
  match xs, hlen with
  | [y0, y1], _ =>
    have h0 := hg 0 _ rfl
    have h1 := hg 1 _ rfl
    have hll : cs.toList.length = 32 := by rw [Array.length_toList]; exact hsz
    obtain ⟨A, hA⟩ : ∃ A, A = (cs.toList.drop 0).take 16 := ⟨_, rfl⟩
    obtain ⟨B, hB⟩ : ∃ B, B = (cs.toList.drop 16).take 16 := ⟨_, rfl⟩
    have lA : A.length = 16 := by rw [hA, List.length_take, List.length_drop]; omega
    have lB : B.length = 16 := by rw [hB, List.length_take, List.length_drop]; omega
    have h0' : DataW.trod enc Tryd.prog W base (fun _ => true) hd n 23 A = some y0 := by rw [hA]; exact h0
    have h1' : DataW.trod enc Tryd.prog W base (fun _ => true) hd n 24 B = some y1 := by rw [hB]; exact h1
    obtain ⟨ys, m, _, _, _, hly, hgy⟩ := DataW.trod_array Tryd.underlying23 h0'
    obtain ⟨zs, m2, _, _, _, hlz, hgz⟩ := DataW.trod_array Tryd.underlying24 h1'
    have each : ∀ b, b < 16 → ∃ l : List It, (∃ u, cs[b]? = some u ∧ RdI W u l) ∧ SzI l ∧ WfI l := by
      intro b hb
      have e1 := hgy b hb
      rw [items_cells, Nat.mul_one] at e1
      obtain ⟨u, hu, hu2⟩ := one_of hb lA
      rw [hu2, List.getElem?_eq_getElem (by omega : b < ys.length)] at e1
      obtain ⟨l, q1, q2, q3⟩ := open_items_at e1
      refine ⟨l, ⟨u, ?_, q1⟩, q2, q3⟩
      rw [hA, List.getElem?_take, if_pos hb, List.drop_zero, Array.getElem?_toList] at hu
      exact hu
    have eachV : ∀ b, b < 16 → ∃ x : Int, cs[16 + b]? = some (.int .i64 x) := by
      intro b hb
      have e1 := hgz b hb
      rw [int_cells9, Nat.mul_one] at e1
      obtain ⟨u, hu, hu2⟩ := one_of hb lB
      rw [hu2, List.getElem?_eq_getElem (by omega : b < zs.length)] at e1
      obtain ⟨a, ea, _, _⟩ := DataW.trod_int Tryd.underlying3 e1
      refine ⟨a, ?_⟩
      rw [hB, List.getElem?_take, if_pos hb, List.getElem?_drop, Array.getElem?_toList] at hu
      simp at ea
      rw [hu, ea]
    refine ⟨fun b => if hb : b < 16 then (each b hb).choose else [], fun b => if hb : b < 16 then (eachV b hb).choose else 0, ⟨hsz, fun b hb => ?_, fun b hb => ?_⟩, fun b hb => ?_, fun b hb => ?_⟩
    · simp only [hb, dite_true]; exact (each b hb).choose_spec.1
    · simp only [hb, dite_true]; exact (eachV b hb).choose_spec
    · simp only [hb, dite_true]; exact (each b hb).choose_spec.2.1
    · simp only [hb, dite_true]; exact (each b hb).choose_spec.2.2
theorem open_other {W : World} {r : Reach} {base b0 : Nat} {hd : Bool} {v : Value} {d : DataW H} {p : List MemPlace}
    (hval : Value.okWide Tryd.prog W r b0 53 v) (h : DataW.Trod enc Tryd.prog W base (fun _ => true) hd 53 v d p) :
    ∃ (CO cs : Array Value) (lv : Nat → List It) (vs : Nat → Int) (b ver : Int) (vl : Value) (l : List It), v = .agg CO ∧ RdO W CO cs lv vs b ver vl l := by
  obtain ⟨CO, rfl, hsz⟩ := okWide_struct Tryd.underlying53 hval
  rw [other_cells] at hsz
  obtain ⟨fuel, hf⟩ := h
  obtain ⟨xs, n, _, hx, _, hlen, hg⟩ := DataW.trod_struct Tryd.underlying53 hf
  match xs, hlen with
  | [y0, y1, y2, y3], _ =>
    have h0 := hg 0 _ rfl
    have h1 := hg 1 _ rfl
    have h2 := hg 2 _ rfl
    have h3 := hg 3 _ rfl
    simp only [trunk_cells, int_cells9, items_cells, Value.cells] at h0 h1 h2 h3
    have hll : CO.toList.length = 35 := by rw [Array.length_toList]; exact hsz
    obtain ⟨cs, hcs⟩ : ∃ cs, cs = ((CO.toList.drop 0).take 32).toArray := ⟨_, rfl⟩
    have hcl : cs.toList = (CO.toList.drop 0).take 32 := by rw [hcs]
    have hs32 : cs.size = 32 := by rw [hcs, List.size_toArray, List.length_take, List.length_drop]; omega
    have h0' : DataW.trod enc Tryd.prog W base (fun _ => true) hd n 26 cs.toList = some y0 := by rw [hcl]; exact h0
    obtain ⟨lv, vs, k1, k2, k3⟩ := open_trunk_at hs32 h0'
    obtain ⟨u1, g1, g1b⟩ := one_of (i := 32) (by omega) hll
    obtain ⟨u2, g2, g2b⟩ := one_of (i := 33) (by omega) hll
    obtain ⟨u3, g3, g3b⟩ := one_of (i := 34) (by omega) hll
    have h1' : DataW.trod enc Tryd.prog W base (fun _ => true) hd n 3 [u1] = some y1 := by rw [← g1b]; exact h1
    have h2' : DataW.trod enc Tryd.prog W base (fun _ => true) hd n 3 [u2] = some y2 := by rw [← g2b]; exact h2
    have h3' : DataW.trod enc Tryd.prog W base (fun _ => true) hd n 22 [u3] = some y3 := by rw [← g3b]; exact h3
    obtain ⟨a1, e1, _, _⟩ := DataW.trod_int Tryd.underlying3 h1'
    obtain ⟨a2, e2, _, _⟩ := DataW.trod_int Tryd.underlying3 h2'
    obtain ⟨l, m1, m2, m3⟩ := open_items_at h3'
    simp at e1 e2
    rw [Array.getElem?_toList] at g1 g2 g3
    refine ⟨CO, cs, lv, vs, a1, a2, u3, l, rfl, k1, k2, m1, m2, fun j hj => ?_, by rw [g1, e1], by rw [g2, e2], g3⟩
    rw [← Array.getElem?_toList, ← Array.getElem?_toList, hcl, List.getElem?_take, if_pos hj, List.drop_zero]
end
theorem replaces_row (CO cs : Array Value) (lv : Nat → List It) (vs : Nat → Int) (b ver : Int) (vl : Value) (l : List It) (w : World) (hO : RdO w CO cs lv vs b ver vl l) (tab : TabAt w) :
    Calls Tryd.prog 5 #[.agg CO] w fun e w' => e = .returned (.bool true) ∧ Below w.heap.size w w' := by
  obtain ⟨h, hsz, hl, hszl, hsub, h32, h33, h34⟩ := hO
  cases hm : mayTs (fun b => fewL (lv b)) vs 16 with
  | false => exact repM CO cs lv vs b ver vl l w tab h hsz hl hszl hsub h32 h33 h34 hm
  | true =>
    by_cases hb : b < 0 ∨ 16 ≤ b
    · exact repR CO cs lv vs b ver vl l w tab h hsz hl hszl hsub h32 h33 h34 hm hb
    · obtain ⟨nb, hnb⟩ : ∃ nb : Nat, b = (nb : Int) := ⟨b.toNat, by omega⟩
      have hb16 : nb < 16 := by omega
      cases hf : mayT (nb : Int) (fewL l) ver with
      | false => exact repF CO cs lv vs b ver vl l w tab h hsz hl hszl hsub h32 h33 h34 nb hnb hb16 hm hf
      | true => exact repY CO cs lv vs b ver vl l w tab h hsz hl hszl hsub h32 h33 h34 nb hnb hb16 hm hf
end Go.Proofs.YtmjedjhkhjiigaaDoor
namespace Go.Proofs.YtmjedjhkhjiigaaDoor
open Go Go.ChangeShapes Go.WideShapes Go.ChangeAt Go.RowKit
set_option linter.unusedVariables false
def laid1 : List (String × DataW Unit) := [("plenum/key.allowed", Rows.laid_plenum_key_allowed)]
theorem gTab : Tryd.prog.globalNamed "plenum/key.allowed" = some 0 := by kernel_rfl
theorem tTab : (Tryd.prog.globals[0]?).map (·.type) = some 152 := by kernel_rfl
theorem cU64 : Tryd.prog.cellsOf 90 = 1 := by kernel_rfl
theorem cTab : Tryd.prog.cellsOf 152 = 2 := by kernel_rfl
def tabL : List Int := [288195191779622912, 576460745860972544]
theorem laid_tab {H : Type} : (Rows.laid_plenum_key_allowed : DataW H) = .agg (tabL.map fun n => .lit (.int .u64 n)) := rfl
theorem tab_of_laid {W : World} (h : laidMetH Tryd.prog laid1 W) : TabAt W := by
  rw [MakeChecks.laidMetH_plain _ _ _ (by kernel_rfl)] at h
  obtain ⟨ps, ⟨g0, t0, cs0, f0, p0, q0, hg0, ht0, hv0, hd0, _, _⟩, _, _⟩ := h
  obtain rfl := Option.some.inj (gTab.symm.trans hg0)
  obtain rfl := Option.some.inj (tTab.symm.trans ht0)
  obtain ⟨xs, m1, rfl, hx1, hlen, hn, hel⟩ := DataW.trod_array Tryd.underlying152 hd0
  simp only [Prod.mk.injEq] at hx1
  have hx := hx1.1
  rw [laid_tab] at hx
  simp only [DataW.agg.injEq] at hx
  rw [cTab] at hlen
  have cell : ∀ i, i < 2 → W.cell? ⟨0, i, none⟩ = some (.int .u64 (tabL.getD i 0)) := by
    intro i hi
    have h1 := hel i hi
    rw [cU64, Nat.mul_one] at h1
    obtain ⟨x, hxi⟩ : ∃ x, xs[i]? = some x := ⟨xs[i]'(by omega), by simp [hn, hi]⟩
    rw [hxi] at h1
    obtain ⟨k, e1, e2, _⟩ := DataW.trod_int Tryd.underlying90 h1
    have h3 : (xs.map (·.1))[i]? = some (.lit (.int .u64 k)) := by rw [List.getElem?_map, hxi, e2]; rfl
    rw [← hx, List.getElem?_map] at h3
    have h4 : tabL[i]? = some (tabL.getD i 0) := by
      have : i < tabL.length := hi
      simp [this]
    rw [h4] at h3
    simp at h3
    have h5 := World.var?_cell hg0 hv0 i
    have h6 : cs0[i]? = some (.int .u64 k) := by
      have : (cs0.toList.drop i)[0]? = some (.int .u64 k) := by
        have := congrArg (fun l => l[0]?) e1
        simpa [List.getElem?_take] using this
      simpa using this
    rw [h5, h6]
    simp [h3]
  refine ⟨?_, cell 0 (by decide), cell 1 (by decide)⟩
  have := World.block_lt_of_cell? W _ (cell 0 (by decide))
  simpa using this
end Go.Proofs.YtmjedjhkhjiigaaDoor
