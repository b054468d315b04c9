/- A region whose order is open and that ends in a chain of stores: behind operation number n nothing is asked of the world. -/
/- Trunks: the law TrunkDoes. Written by wip/tools/gen10n.py. -/
/- Values: their bytes, by the document. -/
/- Leaves: items among the arguments. -/
import Derived.Test.YtbdfcgffkonbiaaGreatDoorQSSC22
import Derived.Test.YtbdfcgffkonbiaaGreatDoorQSSC24
import Derived.Test.YtbdfcgffkonbiaaGreatDoorQSSC21
import Derived.Test.YtbdfcgffkonbiaaGreatDoorQSSC10
import Derived.Lib.SmallJoins
import Derived.ProofKit
import Derived.OpenShut
import Derived.SliceStrings
import Derived.ChangeOld
namespace Go.Proofs.YtbdfcgffkonbiaaGreatDoor
open Go.RowKit
set_option linter.unusedVariables false
section
variable {P : Program} {ops : Array Oper} {Q : Exit → Act → World → Prop} {n : Nat}
/-- What is left of the region, whatever was asked of the world ahead. -/
def wpO (P : Program) (ops : Array Oper) (n : Nat) (Q : Exit → Act → World → Prop) (f : Nat) (l : Array Bool) (a : Act) (w : World) : Prop :=
  ∀ S : World → Prop, orders P .any ops n Q S f l a w
theorem t_tail {i : Nat} {oi : Oper} {f : Nat} {l : Array Bool} {a : Act} {w : World} (hi : ops[i]? = some oi) (hr : Region.ready .any ops l = [i]) (hin : decide (n ≤ i) = true) (hw : Region.wanted oi (yielded ops a.tmps) = true)
    (h : ∀ K : Act → World → Prop, (∀ a' w', wpO P ops n Q f (l.setIfInBounds i true) a' w' → K a' w') → oi.wp P a w K Q) : wpO P ops n Q (f + 1) l a w := by
  intro S
  refine ⟨fun e => (by rw [hr] at e; cases e), ?_⟩
  intro j hj
  rw [hr, List.mem_singleton] at hj
  subst hj
  unfold wpOp
  simp only [hi, hw, if_true]
  exact .inl (h _ fun a' w' k => ⟨fun hlt => absurd hlt (Nat.not_lt_of_le (of_decide_eq_true hin)), k S⟩)
theorem t_into {f : Nat} {l : Array Bool} {a : Act} {w : World} (h : wpO P ops n Q f l a w) : wpT P ops n Q f l a w := fun _ => h _
theorem t_over {f : Nat} {l : Array Bool} {a : Act} {w : World} (hr : Region.ready .any ops l = []) (h : Q .normal a w) : wpO P ops n Q f l a w := by
  intro S
  cases f with
  | zero => exact ⟨hr, h⟩
  | succ f => exact ⟨fun _ => h, by rw [hr]; simp⟩
end
end Go.Proofs.YtbdfcgffkonbiaaGreatDoor
namespace Go.Proofs.YtbdfcgffkonbiaaGreatDoor
open Go Go.RowKit
set_option linter.unusedVariables false
set_option linter.unusedSimpArgs false
theorem infoI {a b c d e : Value} : (Tryz.prog.info? 48).map (·.size) = some (#[a, b, c, d, e] : Array Value).size := by kernel_rfl
theorem itc_one (x : It) : ((#[.string (str x.key), .int .i64 x.v.k, .int .i64 x.v.i, .string (str x.v.s), .int .i64 x.ver] : Array Value)).all (·.oneCell') = true := by simp [Value.oneCell']
theorem TrA.mk {w0 w w' : World} {cs : Array Value} {lv : Nat → List It} {vs : Nat → Int} {c : Nat} {e : Ending} (h : TrA w0.heap.size w lv vs c e w') : ∃ cs, e = .returned (.tuple #[.agg cs, .int .i64 (c : Int)]) ∧ cs.size = 32 ∧ cs.all (·.oneCell') = true ∧ Hid (∀ w'', w'.heap.size ≤ w''.heap.size → (∀ g, g < w'.heap.size → (g < w0.heap.size ∨ w.heap.size ≤ g) → w''.heap[g]? = w'.heap[g]?) → RdT w'' cs lv vs) ∧ Below w.heap.size w w' := h
end Go.Proofs.YtbdfcgffkonbiaaGreatDoor
namespace Go.Proofs.YtbdfcgffkonbiaaGreatDoor.V7
open Go Go.RowKit
set_option linter.unusedVariables false
set_option linter.unusedSimpArgs false
theorem ret_str {a b : ByteArray} (h : a = b) : Ending.returned (.string a) = Ending.returned (.string b) := by rw [h]
theorem one_str (c : UInt8) (l : List UInt8) : (ByteArray.mk #[c]) ++ str l = str (c :: l) := by
  rw [show ByteArray.mk #[c] = str [c] from rfl, str_append]; rfl
theorem rd_block {w : World} {g : Nat} {l : List UInt8} {t : TypeId} (h : w.heap[g]? = some (.cells (l.map bv).toArray t (0, 0))) (hm : l.length ≤ maxLen) : Rd w (.slice (some ⟨g, 0, none⟩) l.length l.length) l := by
  refine ⟨some ⟨g, 0, none⟩, l.length, rfl, Nat.le_refl _, hm, by simp, ?_⟩
  intro _
  refine ⟨g, 0, rfl, lt_of_block h, ?_⟩
  intro i hi
  rw [Nat.zero_add, block_cell h]
  simp [hi]
theorem conv_one (w : World) (i : Int) (c : UInt8) (n : Int) (hn : n = (c.toNat : Int)) : (convert 129 9 (.slice (some ⟨w.heap.size + 1, 0, none⟩) 1 1)).run Tryz.prog ((w.alloc (.cells #[.int .i64 1, .int .i64 i, .string (str [])] 46)).alloc (.cells #[.int .u8 n] 5)) = .ok (.string (str [c])) ((w.alloc (.cells #[.int .i64 1, .int .i64 i, .string (str [])] 46)).alloc (.cells #[.int .u8 n] 5)) := by
  subst hn
  have q := (two_allocs w (.cells #[.int .i64 1, .int .i64 i, .string (str [])] 46) (.cells #[.int .u8 (c.toNat : Int)] 5)).2.1
  exact conv_rd (P := Tryz.prog) (rd_block (l := [c]) q (by simp [maxLen])) 129 5 9 Tryz.underlying129 Tryz.underlying5 Tryz.underlying9
end Go.Proofs.YtbdfcgffkonbiaaGreatDoor.V7
namespace Go.Proofs.YtbdfcgffkonbiaaGreatDoor
open Go.ChangeMaps (open_string)
open Go Go.ChangeShapes Go.WideShapes Go.ChangeAt Go.RowKit Go.Joins
set_option linter.unusedVariables false
set_option linter.unusedSimpArgs false
set_option maxRecDepth 100000
theorem item_cells : Tryz.prog.cellsOf 48 = 5 := by kernel_rfl
theorem value_cells9 : Tryz.prog.cellsOf 46 = 3 := by kernel_rfl
theorem int_cells9 : Tryz.prog.cellsOf 3 = 1 := by kernel_rfl
theorem int64_cells9 : Tryz.prog.cellsOf 2 = 1 := by kernel_rfl
theorem string_cells9 : Tryz.prog.cellsOf 9 = 1 := by kernel_rfl
theorem array5 {α : Type} {cs : Array α} (h : cs.size = 5) : ∃ c0 c1 c2 c3 c4, cs = #[c0, c1, c2, c3, c4] := by
  obtain ⟨l⟩ := cs
  match l, h with
  | [c0, c1, c2, c3, c4], _ => exact ⟨c0, c1, c2, c3, c4, rfl⟩
theorem i64_wf {x : Int} (h : (Lit.int .i64 x).wf = true) : I64 x := by
  simp [Lit.wf, IntKind.min, IntKind.max, IntKind.signed, IntKind.bits] at h
  unfold I64; omega
section
variable {H : Type} {enc : TypeId × Value → H}
theorem item_of {W : World} {base : Nat} {sp : Nat → Bool} {fuel : Nat} {u0 u1 u2 u3 u4 : Value} {hd : Bool} {y : DataW H × List MemPlace}
    (hy : DataW.trod enc Tryz.prog W base sp hd fuel 48 [u0, u1, u2, u3, u4] = some y) :
    ∃ x : It, [u0, u1, u2, u3, u4] = itC x ∧ x.key.length ≤ maxLen ∧ x.v.s.length ≤ maxLen ∧ I64 x.v.i := by
  obtain ⟨xs, n, _, hx, _, hlen, hg⟩ := DataW.trod_struct Tryz.underlying48 hy
  match xs, hlen with
  | [y0, y1, y2], _ =>
    have h0 := hg 0 _ rfl
    have h1 := hg 1 _ rfl
    have h2 := hg 2 _ rfl
    simp [item_cells, value_cells9, int_cells9, string_cells9] at h0 h1 h2
    obtain ⟨a0, e0, _, w0⟩ := DataW.trod_string Tryz.underlying9 h0
    obtain ⟨a2, e2, _, w2⟩ := DataW.trod_int Tryz.underlying3 h2
    obtain ⟨ys, m, _, hy1, _, hlen1, hg1⟩ := DataW.trod_struct Tryz.underlying46 h1
    match ys, hlen1 with
    | [z0, z1, z2], _ =>
      have k0 := hg1 0 _ rfl
      have k1 := hg1 1 _ rfl
      have k2 := hg1 2 _ rfl
      simp [int_cells9, int64_cells9, string_cells9] at k0 k1 k2
      obtain ⟨b0, f0, _, x0⟩ := DataW.trod_int Tryz.underlying3 k0
      obtain ⟨b1, f1, _, x1⟩ := DataW.trod_int Tryz.underlying2 k1
      obtain ⟨b2, f2, _, x2⟩ := DataW.trod_string Tryz.underlying9 k2
      simp at e0 e2 f0 f1 f2
      subst e0 e2 f0 f1 f2
      refine ⟨⟨a0.data.toList, ⟨b0, b1, b2.data.toList⟩, a2⟩, ?_, ?_, ?_, i64_wf x1⟩
      · unfold itC; rw [str_of, str_of]
      · show a0.data.toList.length ≤ maxLen
        rw [Array.length_toList]; exact w0
      · show b2.data.toList.length ≤ maxLen
        rw [Array.length_toList]; exact x2
theorem open_item {W : World} {r : Reach} {base b0 : Nat} {sp : Nat → Bool} {hd : Bool} {v : Value} {d : DataW H} {p : List MemPlace}
    (hval : Value.okWide Tryz.prog W r b0 48 v) (h : DataW.Trod enc Tryz.prog W base sp hd 48 v d p) : ∃ x : It, v = itV x ∧ x.key.length ≤ maxLen ∧ x.v.s.length ≤ maxLen ∧ I64 x.v.i := by
  obtain ⟨cs, rfl, hsz⟩ := okWide_struct Tryz.underlying48 hval
  obtain ⟨c0, c1, c2, c3, c4, rfl⟩ := array5 (hsz.trans item_cells)
  obtain ⟨fuel, hf⟩ := h
  obtain ⟨x, hx, h1, h2, h3⟩ := item_of (u0 := c0) (u1 := c1) (u2 := c2) (u3 := c3) (u4 := c4) hf
  refine ⟨x, ?_, h1, h2, h3⟩
  simp only [itC, List.cons.injEq, and_true] at hx
  obtain ⟨rfl, rfl, rfl, rfl, rfl⟩ := hx
  rfl
theorem open_items_at {W : World} {base : Nat} {fuel : Nat} {hd : Bool} {v : Value} {y : DataW H × List MemPlace}
    (hf : DataW.trod enc Tryz.prog W base (fun _ => true) hd fuel 22 [v] = some y) : ∃ l : List It, RdI W v l ∧ SzI l ∧ WfI l := by
  rcases DataW.trod_slice Tryz.underlying22 hf with ⟨hcs, _⟩ | ⟨x, l, c, elems, rest, n, _, hcs, _, hb, hl, hm, hlen, hel, _, _⟩
  · simp at hcs
    subst hcs
    exact ⟨[], rdk_nil W, fun x hx => by simp at hx, fun x hx => by simp at hx⟩
  · simp at hcs
    subst hcs
    obtain ⟨len, rfl⟩ : ∃ len, len = l := ⟨_, rfl⟩
    obtain ⟨cap, rfl⟩ : ∃ cap, cap = c := ⟨_, rfl⟩
    by_cases h0 : len = 0
    · subst h0
      exact ⟨[], ⟨some x, cap, rfl, Nat.zero_le _, hm, by simp, by simp⟩, fun x hx => by simp at hx, fun x hx => by simp at hx⟩
    obtain ⟨b, off, sp⟩ := x
    have hs : sp = none := by
      have h1 := hel 0 (by omega)
      rw [List.getElem?_eq_getElem (by omega : 0 < elems.length), Option.bind_eq_some_iff] at h1
      obtain ⟨cs0, q2, _⟩ := h1
      rw [item_cells] at q2
      have q3 := World.cells?_some q2
      have q4 := q3.2.2 0 (by omega)
      have hl0 : 0 < cs0.length := by have := q3.2.1; omega
      rw [List.getElem?_eq_getElem hl0] at q4
      simpa [Addr.add] using World.cell?_spot q4
    subst hs
    have each : ∀ j, j < len → ∃ it : It, (∀ i, i < 5 → W.cell? ⟨b, off + (j * 5 + i), none⟩ = (itC it)[i]?) ∧ it.key.length ≤ maxLen ∧ it.v.s.length ≤ maxLen ∧ I64 it.v.i := by
      intro j hj
      have h1 := hel j hj
      rw [List.getElem?_eq_getElem (by omega : j < elems.length), Option.bind_eq_some_iff] at h1
      obtain ⟨cs, hc1, hy⟩ := h1
      rw [item_cells] at hc1
      obtain ⟨_, hl5, hcell⟩ := World.cells?_some hc1
      match cs, hl5 with
      | [u0, u1, u2, u3, u4], _ =>
        obtain ⟨it, hx, q1, q2, q3⟩ := item_of hy
        refine ⟨it, fun i hi => ?_, q1, q2, q3⟩
        have := hcell i hi
        rw [hx, Addr.add_lit, Addr.add_lit, Nat.add_assoc] at this
        exact this
    have pick : ∃ f : Nat → It, ∀ j, j < len → (∀ i, i < 5 → W.cell? ⟨b, off + (j * 5 + i), none⟩ = (itC (f j))[i]?) ∧ (f j).key.length ≤ maxLen ∧ (f j).v.s.length ≤ maxLen ∧ I64 (f j).v.i := by
      refine ⟨fun j => if h : j < len then (each j h).choose else ⟨[], ⟨0, 0, []⟩, 0⟩, fun j hj => ?_⟩
      simp only [hj, dite_true]
      exact (each j hj).choose_spec
    obtain ⟨f, hf2⟩ := pick
    have hL : ((List.range len).map f).length = len := by simp
    have mem : ∀ y ∈ (List.range len).map f, ∃ j, j < len ∧ y = f j := fun y hy => by
      obtain ⟨j, hj, rfl⟩ := List.mem_map.1 hy
      exact ⟨j, List.mem_range.1 hj, rfl⟩
    refine ⟨(List.range len).map f, ⟨some ⟨b, off, none⟩, cap, by rw [hL], by rw [hL]; exact hl, hm, by simp, ?_⟩, ?_, ?_⟩
    · rw [hL]
      intro h0
      have c0 := (hf2 0 h0).1 0 (by omega)
      have hb0 : b < W.heap.size := by
        have : W.cell? ⟨b, off + (0 * 5 + 0), none⟩ = some (.string (str (f 0).key)) := c0
        exact World.block_lt_of_cell? W _ this
      refine ⟨b, off, rfl, hb0, fun t ht => ?_⟩
      have hj : t / 5 < len := by omega
      have h1 := (hf2 (t / 5) hj).1 (t % 5) (by omega)
      have e1 : t / 5 * 5 + t % 5 = t := by omega
      have h2 := flat_get itC_len ((List.range len).map f) (t / 5) (t % 5) (by rw [hL]; exact hj) (by omega)
      rw [e1] at h1 h2
      rw [h1, h2]
      simp
    · intro y hy
      obtain ⟨j, hj, rfl⟩ := mem y hy
      exact ⟨(hf2 j hj).2.1, (hf2 j hj).2.2.1⟩
    · intro y hy
      obtain ⟨j, hj, rfl⟩ := mem y hy
      exact (hf2 j hj).2.2.2
theorem open_items {W : World} {r : Reach} {base b0 : Nat} {hd : Bool} {v : Value} {d : DataW H} {p : List MemPlace}
    (hval : Value.okWide Tryz.prog W r b0 22 v) (h : DataW.Trod enc Tryz.prog W base (fun _ => true) hd 22 v d p) : ∃ l : List It, RdI W v l ∧ SzI l ∧ WfI l := by
  obtain ⟨a, len, cap, rfl⟩ := okWide_slice Tryz.underlying22 hval
  obtain ⟨fuel, hf⟩ := h
  exact open_items_at (by simpa [Value.cells] using hf)
theorem open_text9 {W : World} {r : Reach} {base b0 : Nat} {sp : Nat → Bool} {hd : Bool} {v : Value} {d : DataW H} {p : List MemPlace}
    (hval : Value.okWide Tryz.prog W r b0 9 v) (h : DataW.Trod enc Tryz.prog W base sp hd 9 v d p) : ∃ s : List UInt8, v = .string (str s) ∧ s.length ≤ maxLen := by
  obtain ⟨a, rfl, _, _, w⟩ := open_string Tryz.underlying9 hval h
  exact ⟨a.data.toList, by rw [str_of], by rw [Array.length_toList]; exact w⟩
end
end Go.Proofs.YtbdfcgffkonbiaaGreatDoor
