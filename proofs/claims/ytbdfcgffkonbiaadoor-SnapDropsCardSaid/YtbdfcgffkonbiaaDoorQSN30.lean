/- Stores and lists of snaps among the arguments. Written by wip/tools/gen13o.py. -/
/- Snaps: what is read of a list of them. -/
/- Lists of snaps among the arguments. Written by wip/tools/gen14o.py. -/
/- A struct of many cells out of the middle of a block, and into it. It speaks of no program in particular. -/
import Derived.Deep.MidRow
import Derived.Test.YtbdfcgffkonbiaaDoorQSN24
import Derived.Test.YtbdfcgffkonbiaaDoorQSN29
import Derived.Lib.SmallJoins
import Derived.ProofKit
import Derived.OpenShut
import Derived.ChangeOld
import Derived.Test.YtbdfcgffkonbiaaDoorQSN3
namespace Go.Proofs.YtbdfcgffkonbiaaDoor
open Go Go.ChangeShapes Go.WideShapes Go.ChangeAt Go.RowKit Go.Joins
set_option linter.unusedVariables false
set_option linter.unusedSimpArgs false
set_option maxRecDepth 100000
theorem store_cells : Tryd.prog.cellsOf 28 = 35 := by kernel_rfl
section
variable {H : Type} {enc : TypeId × Value → H}
theorem open_trunk_at13 {W : World} {base fuel : Nat} {hd : Bool} {cs : Array Value} {y : DataW H × List MemPlace} (hsz : cs.size = 32)
    (hf : DataW.trod enc Tryd.prog W base (fun _ => true) hd fuel 26 cs.toList = some y) : ∃ (lv : Nat → List It) (vs : Nat → Int), RdT W cs lv vs ∧ SzT lv ∧ WfT lv := by
  obtain ⟨xs, n, _, hx, _, hlen, hg⟩ := DataW.trod_struct Tryd.underlying26 hf
  match xs, hlen with
  | [y0, y1], _ =>
    have h0 := hg 0 _ rfl
    have h1 := hg 1 _ rfl
    have hll : cs.toList.length = 32 := by rw [Array.length_toList]; exact hsz
    obtain ⟨A, hA⟩ : ∃ A, A = (cs.toList.drop 0).take 16 := ⟨_, rfl⟩
    obtain ⟨B, hB⟩ : ∃ B, B = (cs.toList.drop 16).take 16 := ⟨_, rfl⟩
    have lA : A.length = 16 := by rw [hA, List.length_take, List.length_drop]; omega
    have lB : B.length = 16 := by rw [hB, List.length_take, List.length_drop]; omega
    have h0' : DataW.trod enc Tryd.prog W base (fun _ => true) hd n 23 A = some y0 := by rw [hA]; exact h0
    have h1' : DataW.trod enc Tryd.prog W base (fun _ => true) hd n 24 B = some y1 := by rw [hB]; exact h1
    obtain ⟨ys, m, _, _, _, hly, hgy⟩ := DataW.trod_array Tryd.underlying23 h0'
    obtain ⟨zs, m2, _, _, _, hlz, hgz⟩ := DataW.trod_array Tryd.underlying24 h1'
    have each : ∀ b, b < 16 → ∃ l : List It, (∃ u, cs[b]? = some u ∧ RdI W u l) ∧ SzI l ∧ WfI l := by
      intro b hb
      have e1 := hgy b hb
      rw [items_cells, Nat.mul_one] at e1
      obtain ⟨u, hu, hu2⟩ := one_of hb lA
      rw [hu2, List.getElem?_eq_getElem (by omega : b < ys.length)] at e1
      obtain ⟨l, q1, q2, q3⟩ := open_items_at e1
      refine ⟨l, ⟨u, ?_, q1⟩, q2, q3⟩
      rw [hA, List.getElem?_take, if_pos hb, List.drop_zero, Array.getElem?_toList] at hu
      exact hu
    have eachV : ∀ b, b < 16 → ∃ x : Int, cs[16 + b]? = some (.int .i64 x) := by
      intro b hb
      have e1 := hgz b hb
      rw [int_cells9, Nat.mul_one] at e1
      obtain ⟨u, hu, hu2⟩ := one_of hb lB
      rw [hu2, List.getElem?_eq_getElem (by omega : b < zs.length)] at e1
      obtain ⟨a, ea, _, _⟩ := DataW.trod_int Tryd.underlying3 e1
      refine ⟨a, ?_⟩
      rw [hB, List.getElem?_take, if_pos hb, List.getElem?_drop, Array.getElem?_toList] at hu
      simp at ea
      rw [hu, ea]
    refine ⟨fun b => if hb : b < 16 then (each b hb).choose else [], fun b => if hb : b < 16 then (eachV b hb).choose else 0, ⟨hsz, fun b hb => ?_, fun b hb => ?_⟩, fun b hb => ?_, fun b hb => ?_⟩
    · simp only [hb, dite_true]; exact (each b hb).choose_spec.1
    · simp only [hb, dite_true]; exact (eachV b hb).choose_spec
    · simp only [hb, dite_true]; exact (each b hb).choose_spec.2.1
    · simp only [hb, dite_true]; exact (each b hb).choose_spec.2.2
theorem open_store_at {W : World} {base fuel : Nat} {hd : Bool} {CO : Array Value} {y : DataW H × List MemPlace} (hsz : CO.size = 35)
    (hf : DataW.trod enc Tryd.prog W base (fun _ => true) hd fuel 28 CO.toList = some y) : ∃ s : St, RdS W CO s ∧ SzT s.lv ∧ WfT s.lv := by
  obtain ⟨xs, n, _, hx, _, hlen, hg⟩ := DataW.trod_struct Tryd.underlying28 hf
  match xs, hlen with
  | [y0, y1, y2, y3], _ =>
    have h0 := hg 0 _ rfl
    have h1 := hg 1 _ rfl
    have h2 := hg 2 _ rfl
    have h3 := hg 3 _ rfl
    have hll : CO.toList.length = 35 := by rw [Array.length_toList]; exact hsz
    have h0' : DataW.trod enc Tryd.prog W base (fun _ => true) hd n 26 (tC CO).toList = some y0 := h0
    obtain ⟨lv, vs, k1, k2, k3⟩ := open_trunk_at13 (tC_size hsz) h0'
    obtain ⟨u1, g1, g1b⟩ := one_of (i := 32) (by omega) hll
    obtain ⟨u2, g2, g2b⟩ := one_of (i := 33) (by omega) hll
    obtain ⟨u3, g3, g3b⟩ := one_of (i := 34) (by omega) hll
    have h1' : DataW.trod enc Tryd.prog W base (fun _ => true) hd n 3 [u1] = some y1 := by rw [← g1b]; exact h1
    have h2' : DataW.trod enc Tryd.prog W base (fun _ => true) hd n 3 [u2] = some y2 := by rw [← g2b]; exact h2
    have h3' : DataW.trod enc Tryd.prog W base (fun _ => true) hd n 3 [u3] = some y3 := by rw [← g3b]; exact h3
    obtain ⟨a1, e1, _, w1⟩ := DataW.trod_int Tryd.underlying3 h1'
    obtain ⟨a2, e2, _, w2⟩ := DataW.trod_int Tryd.underlying3 h2'
    obtain ⟨a3, e3, _, w3⟩ := DataW.trod_int Tryd.underlying3 h3'
    simp at e1 e2 e3
    rw [Array.getElem?_toList] at g1 g2 g3
    exact ⟨⟨lv, vs, a1, a2, a3⟩, ⟨hsz, k1, by rw [g1, e1], by rw [g2, e2], by rw [g3, e3]⟩, k2, k3⟩
theorem open_store {W : World} {r : Reach} {base b0 : Nat} {hd : Bool} {v : Value} {d : DataW H} {p : List MemPlace}
    (hval : Value.okWide Tryd.prog W r b0 28 v) (h : DataW.Trod enc Tryd.prog W base (fun _ => true) hd 28 v d p) :
    ∃ (cs : Array Value) (s : St), v = .agg cs ∧ RdS W cs s ∧ SzT s.lv ∧ WfT s.lv := by
  obtain ⟨CO, rfl, hsz⟩ := okWide_struct Tryd.underlying28 hval
  rw [store_cells] at hsz
  obtain ⟨fuel, hf⟩ := h
  obtain ⟨s, h1, h2, h3⟩ := open_store_at hsz (by simpa [Value.cells] using hf)
  exact ⟨CO, s, rfl, h1, h2, h3⟩
end
end Go.Proofs.YtbdfcgffkonbiaaDoor
namespace Go.Proofs.YtbdfcgffkonbiaaDoor
open Go Go.ChangeShapes Go.WideShapes Go.ChangeAt Go.RowKit Go.Joins
set_option linter.unusedVariables false
set_option linter.unusedSimpArgs false
set_option maxRecDepth 100000
/-- A snap: its number, its store's cells, and what they are. -/
structure Sn where
  q : Int
  c : Nat → Value
  s : St
/-- A value that is one cell. -/
def one1 (v : Value) : Value := if v.oneCell' = true then v else .nilIface
theorem one1_one (v : Value) : (one1 v).oneCell' = true := by
  unfold one1
  split
  · assumption
  · rfl
theorem one1_of {v : Value} (h : v.oneCell' = true) : one1 v = v := if_pos h
def stA (c : Nat → Value) : Array Value := ((List.range 35).map fun i => one1 (c i)).toArray
def snA (x : Sn) : Array Value := stA x.c
def snC (x : Sn) : List Value := .int .i64 x.q :: (List.range 35).map fun i => one1 (x.c i)
theorem snC_one (x : Sn) : ∀ u ∈ snC x, u.oneCell' = true := by
  intro u hu
  unfold snC at hu
  rcases List.mem_cons.1 hu with rfl | h
  · rfl
  · obtain ⟨i, _, rfl⟩ := List.mem_map.1 h
    exact one1_one _
theorem snC_len (x : Sn) : (snC x).length = 36 := by simp [snC]
theorem snA_size (x : Sn) : (snA x).size = 35 := by simp [snA, stA]
theorem stA_list {r : List Value} (h : r.length = 35) (h1 : ∀ u ∈ r, u.oneCell' = true) : (List.range 35).map (fun i => one1 (r.getD i .nilIface)) = r := by
  have h1' := h1
  apply List.ext_getElem
  · simp [h]
  · intro i h1 h2
    have e : r.getD i .nilIface = r[i] := by simp [List.getD, h2]
    simp only [List.getElem_map, List.getElem_range, e]
    exact one1_of (h1' _ (List.getElem_mem _))
/-- A snap of a store's cells. -/
def mkSn (q : Int) (cs : Array Value) (s : St) : Sn := ⟨q, fun i => cs.toList.getD i .nilIface, s⟩
theorem mkSn_A {q : Int} {cs : Array Value} {s : St} (h : cs.size = 35) (h1 : ∀ u ∈ cs.toList, u.oneCell' = true) : snA (mkSn q cs s) = cs := by
  show stA _ = cs
  unfold stA mkSn
  rw [stA_list (by rw [Array.length_toList]; exact h) h1, Array.toArray_toList]
def RdSn (w : World) (l : List Sn) : Prop := ∀ x ∈ l, RdS w (snA x) x.s
def SzSn (l : List Sn) : Prop := ∀ x ∈ l, SzT x.s.lv ∧ WfT x.s.lv
theorem RdSn.below {w w' : World} {l : List Sn} (h : RdSn w l) {B : Nat} (g : Below B w w') (hB : w.heap.size ≤ B) : RdSn w' l := fun x hx => (h x hx).below g hB
theorem own_other {w w' : World} {b1 b2 k1 k2 : Nat} {e1 e2 : TypeId} {v1 v2 : Value} {n1 n2 : Nat} {xs1 xs2 : List Value} (h1 : w.ownsRow b1 e1 k1 v1 n1 xs1) (h2 : w.ownsRow b2 e2 k2 v2 n2 xs2) (he : e1 ≠ e2) (g : w.grownBy w' v2.ownBlock) : w'.ownsRow b1 e1 k1 v1 n1 xs1 := by
  refine ⟨h1.1, ?_⟩
  rcases h1.2 with h | ⟨q, cap, cur, hv, hb, hq, h3, h4, h5, h6⟩
  · exact .inl h
  · refine .inr ⟨q, cap, cur, hv, hb, ?_, h3, h4, h5, h6⟩
    rw [g.block q (lt_of_block hq) ?_]
    · exact hq
    · intro e
      rcases h2.2 with ⟨rfl, _⟩ | ⟨q2, cap2, cur2, hv2, _, hq2, _⟩
      · simp [Value.ownBlock] at e
      · subst hv2
        simp [Value.ownBlock] at e
        subst e
        rw [hq] at hq2
        injection hq2 with e1
        injection e1 with e1 e2
        exact he e2
end Go.Proofs.YtbdfcgffkonbiaaDoor
namespace Go.Proofs.YtbdfcgffkonbiaaDoor
open Go Go.ChangeShapes Go.WideShapes Go.ChangeAt Go.RowKit Go.Joins
set_option linter.unusedVariables false
set_option linter.unusedSimpArgs false
set_option maxRecDepth 100000
theorem snap_cells : Tryd.prog.cellsOf 77 = 36 := by kernel_rfl
def st0 : St := ⟨fun _ => [], fun _ => 0, 0, 0, 0⟩
def sn0 : Sn := ⟨0, fun _ => .nilIface, st0⟩
section
variable {H : Type} {enc : TypeId × Value → H}
theorem snap_of {W : World} {base : Nat} {fuel : Nat} {u0 : Value} {r : List Value} {hd : Bool} {y : DataW H × List MemPlace} (hr : r.length = 35)
    (hy : DataW.trod enc Tryd.prog W base (fun _ => true) hd fuel 77 (u0 :: r) = some y) :
    ∃ x : Sn, u0 :: r = snC x ∧ RdS W (snA x) x.s ∧ SzT x.s.lv ∧ WfT x.s.lv := by
  obtain ⟨xs, n, _, hx, _, hlen, hg⟩ := DataW.trod_struct Tryd.underlying77 hy
  match xs, hlen with
  | [y0, y1], _ =>
    have h0 := hg 0 _ rfl
    have h1 := hg 1 _ rfl
    have h0' : DataW.trod enc Tryd.prog W base (fun _ => true) hd n 3 [u0] = some y0 := h0
    have e35 : ((u0 :: r).drop 1).take 35 = r := by rw [List.drop_succ_cons, List.drop_zero, List.take_of_length_le (by omega)]
    have h1' : DataW.trod enc Tryd.prog W base (fun _ => true) hd n 28 r = some y1 := by rw [← e35]; exact h1
    obtain ⟨a0, e0, _, _⟩ := DataW.trod_int Tryd.underlying3 h0'
    simp at e0
    obtain ⟨CO, hCO⟩ : ∃ CO : Array Value, CO = r.toArray := ⟨_, rfl⟩
    have hCl : CO.toList = r := by rw [hCO]
    have hsz : CO.size = 35 := by rw [← Array.length_toList, hCl]; exact hr
    obtain ⟨s, k1, k2, k3⟩ := open_store_at hsz (by rw [hCl]; exact h1')
    have e2 : stA (fun i => r.getD i .nilIface) = CO := by
      unfold stA; rw [stA_list hr (by rw [← hCl]; exact k1.one), hCO]
    refine ⟨⟨a0, fun i => r.getD i .nilIface, s⟩, ?_, ?_, k2, k3⟩
    · unfold snC; rw [stA_list hr (by rw [← hCl]; exact k1.one), e0]
    · show RdS W (stA _) s
      rw [e2]; exact k1
theorem open_snaps_at {W : World} {base : Nat} {fuel : Nat} {hd : Bool} {v : Value} {y : DataW H × List MemPlace}
    (hf : DataW.trod enc Tryd.prog W base (fun _ => true) hd fuel 70 [v] = some y) : ∃ L : List Sn, RdK 36 snC W v L ∧ RdSn W L ∧ SzSn L := by
  rcases DataW.trod_slice Tryd.underlying70 hf with ⟨hcs, _⟩ | ⟨x, l, c, elems, rest, n, _, hcs, _, hb, hl, hm, hlen, hel, _, _⟩
  · simp at hcs
    subst hcs
    exact ⟨[], rdk_nil W, fun x hx => by simp at hx, fun x hx => by simp at hx⟩
  · simp at hcs
    subst hcs
    obtain ⟨len, rfl⟩ : ∃ len, len = l := ⟨_, rfl⟩
    obtain ⟨cap, rfl⟩ : ∃ cap, cap = c := ⟨_, rfl⟩
    by_cases h0 : len = 0
    · subst h0
      exact ⟨[], ⟨some x, cap, rfl, Nat.zero_le _, hm, by simp, by simp⟩, fun x hx => by simp at hx, fun x hx => by simp at hx⟩
    obtain ⟨b, off, sp⟩ := x
    have hs : sp = none := by
      have h1 := hel 0 (by omega)
      rw [List.getElem?_eq_getElem (by omega : 0 < elems.length), Option.bind_eq_some_iff] at h1
      obtain ⟨cs0, q2, _⟩ := h1
      rw [snap_cells] at q2
      have q3 := World.cells?_some q2
      have q4 := q3.2.2 0 (by omega)
      have hl0 : 0 < cs0.length := by have := q3.2.1; omega
      rw [List.getElem?_eq_getElem hl0] at q4
      simpa [Addr.add] using World.cell?_spot q4
    subst hs
    have each : ∀ j, j < len → ∃ it : Sn, (∀ i, i < 36 → W.cell? ⟨b, off + (j * 36 + i), none⟩ = (snC it)[i]?) ∧ RdS W (snA it) it.s ∧ SzT it.s.lv ∧ WfT it.s.lv := by
      intro j hj
      have h1 := hel j hj
      rw [List.getElem?_eq_getElem (by omega : j < elems.length), Option.bind_eq_some_iff] at h1
      obtain ⟨cs, hc1, hy⟩ := h1
      rw [snap_cells] at hc1
      obtain ⟨_, hl5, hcell⟩ := World.cells?_some hc1
      obtain ⟨u0, r, rfl⟩ : ∃ u r, cs = u :: r := by
        cases cs with
        | nil => simp at hl5
        | cons u r => exact ⟨u, r, rfl⟩
      obtain ⟨it, hx, q1, q2, q3⟩ := snap_of (by simpa using hl5) hy
      refine ⟨it, fun i hi => ?_, q1, q2, q3⟩
      have := hcell i hi
      rw [hx, Addr.add_lit, Addr.add_lit, Nat.add_assoc] at this
      exact this
    have pick : ∃ f : Nat → Sn, ∀ j, j < len → (∀ i, i < 36 → W.cell? ⟨b, off + (j * 36 + i), none⟩ = (snC (f j))[i]?) ∧ RdS W (snA (f j)) (f j).s ∧ SzT (f j).s.lv ∧ WfT (f j).s.lv := by
      refine ⟨fun j => if h : j < len then (each j h).choose else sn0, fun j hj => ?_⟩
      simp only [hj, dite_true]
      exact (each j hj).choose_spec
    obtain ⟨f, hf2⟩ := pick
    have hL : ((List.range len).map f).length = len := by simp
    have mem : ∀ y ∈ (List.range len).map f, ∃ j, j < len ∧ y = f j := fun y hy => by
      obtain ⟨j, hj, rfl⟩ := List.mem_map.1 hy
      exact ⟨j, List.mem_range.1 hj, rfl⟩
    refine ⟨(List.range len).map f, ⟨some ⟨b, off, none⟩, cap, by rw [hL], by rw [hL]; exact hl, hm, by simp, ?_⟩, ?_, ?_⟩
    · rw [hL]
      intro h0
      have c0 := (hf2 0 h0).1 0 (by omega)
      have hb0 : b < W.heap.size := by
        have : W.cell? ⟨b, off + (0 * 36 + 0), none⟩ = some (.int .i64 (f 0).q) := c0
        exact World.block_lt_of_cell? W _ this
      refine ⟨b, off, rfl, hb0, fun t ht => ?_⟩
      have hj : t / 36 < len := by omega
      have h1 := (hf2 (t / 36) hj).1 (t % 36) (by omega)
      have e1 : t / 36 * 36 + t % 36 = t := by omega
      have h2 := flat_get snC_len ((List.range len).map f) (t / 36) (t % 36) (by rw [hL]; exact hj) (by omega)
      rw [e1] at h1 h2
      rw [h1, h2]
      simp
    · intro y hy
      obtain ⟨j, hj, rfl⟩ := mem y hy
      exact (hf2 j hj).2.1
    · intro y hy
      obtain ⟨j, hj, rfl⟩ := mem y hy
      exact (hf2 j hj).2.2
theorem open_snaps {W : World} {r : Reach} {base b0 : Nat} {hd : Bool} {v : Value} {d : DataW H} {p : List MemPlace}
    (hval : Value.okWide Tryd.prog W r b0 70 v) (h : DataW.Trod enc Tryd.prog W base (fun _ => true) hd 70 v d p) : ∃ L : List Sn, RdK 36 snC W v L ∧ RdSn W L ∧ SzSn L := by
  obtain ⟨a, len, cap, rfl⟩ := okWide_slice Tryd.underlying70 hval
  obtain ⟨fuel, hf⟩ := h
  exact open_snaps_at (by simpa [Value.cells] using hf)
end
end Go.Proofs.YtbdfcgffkonbiaaDoor
namespace Go.Proofs.YtbdfcgffkonbiaaDoor
open Go Go.RowKit
set_option linter.unusedVariables false
section
variable {P : Program} {ops : Array Oper} {rest : List Oper} {o : Oper} {a : Act} {w : World} {Q : Exit → Act → World → Prop}
theorem wpList_load_part (hgd : o.guard = none) (ty : TypeId) (x : Operand) (ho : o.op = .load ty x) (g off : Nat) (hx : a.eval x = .pointer (some ⟨g, off, none⟩))
    (cs : Array Value) (d : TypeDesc) (hc : w.rangeAt g off cs.toList) (hu : P.underlying ty = some d) (hd : d.isRow = true) (hi : (P.info? ty).map (·.size) = some cs.size)
    (h : wpList P ops Q rest (a.put o.dst (.agg cs)) w) : wpList P ops Q (o :: rest) a w :=
  wpList_load_mid hgd ty x ho g off hx cs.toList d hc hu hd (by simpa using hi) (by rwa [Array.toArray_toList])
theorem wpList_load_part_g (hw : Region.wanted o (yielded ops a.tmps) = true) (ty : TypeId) (x : Operand) (ho : o.op = .load ty x) (g off : Nat) (hx : a.eval x = .pointer (some ⟨g, off, none⟩))
    (cs : Array Value) (d : TypeDesc) (hc : w.rangeAt g off cs.toList) (hu : P.underlying ty = some d) (hd : d.isRow = true) (hi : (P.info? ty).map (·.size) = some cs.size)
    (h : wpList P ops Q rest (a.put o.dst (.agg cs)) w) : wpList P ops Q (o :: rest) a w := by
  simp only [wpList, hw, if_true]
  refine .inl (wp_load_mid ty x ho g off hx cs.toList d hc hu hd (by simpa using hi) ?_)
  rwa [Array.toArray_toList]
theorem load_partO_op (op : Oper) (a : Act) (x : Operand) {ty : TypeId} {g off : Nat} {cs : Array Value} {d : TypeDesc} {w : World} (ho : op.op = .load ty x) (hx : a.eval x = .pointer (some ⟨g, off, none⟩)) (hc : w.rangeAt g off cs.toList)
    (hu : P.underlying ty = some d) (hd : d.isRow = true) (hi : (P.info? ty).map (·.size) = some cs.size) : (execOp a.eval op).run P w = .ok (.value (.agg cs)) w := by
  have h := run_loadVar_mid (P := P) w g off ty cs.toList d hc hu hd (by simpa using hi)
  rw [Array.toArray_toList] at h
  unfold execOp
  simp only [ho, hx, Instr.loadAt, Instr.sureAddr, Sem.run_bind, Sem.run_pure, Result.andThen_ok, h]
/-- A part of a block's cells. -/
def subA (cs : Array Value) (off n : Nat) : Array Value := ((cs.toList.drop off).take n).toArray
theorem subA_size {cs : Array Value} {off n : Nat} (h : off + n ≤ cs.size) : (subA cs off n).size = n := by
  simp [subA]; omega
theorem subA_at {cs : Array Value} {off n i : Nat} (hi : i < n) : (subA cs off n)[i]? = cs[off + i]? := by
  simp [subA, hi]
theorem subA_range {cs : Array Value} {off n g : Nat} {t : TypeId} {fr : Nat × Nat} (h : w.heap[g]? = some (.cells cs t fr)) : w.rangeAt g off (subA cs off n).toList := fun j v hv => by
  have hj : j < n := by
    have := (List.getElem?_eq_some_iff.1 hv).1
    simp [subA] at this; omega
  rw [cell_of_row w g (off + j) cs t fr h, ← subA_at hj]
  simpa using hv
/-- Cells with others from a place on. -/
def putA : Array Value → Nat → List Value → Array Value
  | cs, _, [] => cs
  | cs, o, v :: r => putA (cs.setIfInBounds o v) (o + 1) r
theorem putA_size : ∀ (vs : List Value) (o : Nat) (cs : Array Value), (putA cs o vs).size = cs.size
  | [], _, _ => rfl
  | v :: r, o, cs => by rw [putA, putA_size r]; simp
theorem putA_out : ∀ (vs : List Value) (o : Nat) (cs : Array Value) (i : Nat), (i < o ∨ o + vs.length ≤ i) → (putA cs o vs)[i]? = cs[i]?
  | [], _, _, _, _ => rfl
  | v :: r, o, cs, i, h => by
    rw [List.length_cons] at h
    rw [putA, putA_out r (o + 1) _ i (by omega), Array.getElem?_setIfInBounds_ne (by omega)]
theorem putA_in : ∀ (vs : List Value) (o : Nat) (cs : Array Value) (j : Nat), o + vs.length ≤ cs.size → j < vs.length → (putA cs o vs)[o + j]? = vs[j]?
  | v :: r, o, cs, 0, h, _ => by
    rw [List.length_cons] at h
    show (putA (cs.setIfInBounds o v) (o + 1) r)[o]? = some v
    rw [putA_out r (o + 1) _ o (by omega), Array.getElem?_setIfInBounds_self_of_lt (by omega)]
  | v :: r, o, cs, j + 1, h, hj => by
    rw [List.length_cons] at h hj
    rw [putA, show o + (j + 1) = (o + 1) + j by omega, putA_in r (o + 1) _ j (by simp; omega) (by omega)]; rfl
theorem sets_row {g : Nat} {t : TypeId} : ∀ (vs : List Value) (o : Nat) (w : World) (cs : Array Value), w.heap[g]? = some (.cells cs t (0, 0)) → (w.setCells g o vs).heap[g]? = some (.cells (putA cs o vs) t (0, 0))
  | [], _, _, _, h => h
  | v :: r, o, w, cs, h => by
    rw [World.setCells, putA]
    exact sets_row r (o + 1) _ _ (set_at h)
theorem sets_other {g k : Nat} (hk : k ≠ g) : ∀ (vs : List Value) (o : Nat) (w : World), (w.setCells g o vs).heap[k]? = w.heap[k]?
  | [], _, _ => rfl
  | v :: r, o, w => by
    rw [World.setCells, sets_other hk r (o + 1), heap_setCell_other _ _ _ _ (by show k ≠ g; exact hk)]
theorem sets_below {B g : Nat} {w0 : World} (hB : B ≤ g) : ∀ (vs : List Value) (o : Nat) (w : World), Below B w0 w → Below B w0 (w.setCells g o vs)
  | [], _, _, h => h
  | v :: r, o, w, h => by
    rw [World.setCells]
    exact sets_below hB r (o + 1) _ (h.setCell (p := ⟨g, o, none⟩) hB v)
theorem there_of {w : World} {g o n : Nat} {cs : Array Value} {t : TypeId} (h : w.heap[g]? = some (.cells cs t (0, 0))) (hn : o + n ≤ cs.size) : w.there g o n := fun j hj => by
  refine ⟨?_, block_frozen h _⟩
  rw [block_cell h, Array.getElem?_eq_getElem (by omega)]; rfl
end
end Go.Proofs.YtbdfcgffkonbiaaDoor
