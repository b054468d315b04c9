/- A region whose order is open and that ends in a chain of stores: behind operation number n nothing is asked of the world. -/
/- Trunks: the law TrunkDoes. Written by wip/tools/gen10n.py. -/
/- Values: their bytes, by the document. -/
/- Leaves: items among the arguments. -/
/- Trunks: a trunk among the arguments. Written by wip/tools/gen10p.py. -/
/- Trunks: Weight; the document's All. Written by wip/tools/gen10t.py. -/
import Derived.Test.YtbdfcgffkonbiaaDoorQST21
import Derived.Test.YtbdfcgffkonbiaaDoorQST22
import Derived.Test.YtbdfcgffkonbiaaDoorQST19
import Derived.Test.YtbdfcgffkonbiaaDoorQST4
import Derived.Lib.SmallJoins
import Derived.ProofKit
import Derived.OpenShut
import Derived.SliceStrings
import Derived.ChangeOld
import Derived.Test.YtbdfcgffkonbiaaDoorQST17
namespace Go.Proofs.YtbdfcgffkonbiaaDoor
open Go.RowKit
set_option linter.unusedVariables false
section
variable {P : Program} {ops : Array Oper} {Q : Exit → Act → World → Prop} {n : Nat}
/-- What is left of the region, whatever was asked of the world ahead. -/
def wpO (P : Program) (ops : Array Oper) (n : Nat) (Q : Exit → Act → World → Prop) (f : Nat) (l : Array Bool) (a : Act) (w : World) : Prop :=
  ∀ S : World → Prop, orders P .any ops n Q S f l a w
theorem t_tail {i : Nat} {oi : Oper} {f : Nat} {l : Array Bool} {a : Act} {w : World} (hi : ops[i]? = some oi) (hr : Region.ready .any ops l = [i]) (hin : decide (n ≤ i) = true) (hw : Region.wanted oi (yielded ops a.tmps) = true)
    (h : ∀ K : Act → World → Prop, (∀ a' w', wpO P ops n Q f (l.setIfInBounds i true) a' w' → K a' w') → oi.wp P a w K Q) : wpO P ops n Q (f + 1) l a w := by
  intro S
  refine ⟨fun e => (by rw [hr] at e; cases e), ?_⟩
  intro j hj
  rw [hr, List.mem_singleton] at hj
  subst hj
  unfold wpOp
  simp only [hi, hw, if_true]
  exact .inl (h _ fun a' w' k => ⟨fun hlt => absurd hlt (Nat.not_lt_of_le (of_decide_eq_true hin)), k S⟩)
theorem t_into {f : Nat} {l : Array Bool} {a : Act} {w : World} (h : wpO P ops n Q f l a w) : wpT P ops n Q f l a w := fun _ => h _
theorem t_over {f : Nat} {l : Array Bool} {a : Act} {w : World} (hr : Region.ready .any ops l = []) (h : Q .normal a w) : wpO P ops n Q f l a w := by
  intro S
  cases f with
  | zero => exact ⟨hr, h⟩
  | succ f => exact ⟨fun _ => h, by rw [hr]; simp⟩
end
end Go.Proofs.YtbdfcgffkonbiaaDoor
namespace Go.Proofs.YtbdfcgffkonbiaaDoor
open Go Go.RowKit
set_option linter.unusedVariables false
set_option linter.unusedSimpArgs false
theorem TrA.mk {w0 w w' : World} {cs : Array Value} {lv : Nat → List It} {vs : Nat → Int} {c : Nat} {e : Ending} (h : TrA w0.heap.size w lv vs c e w') : ∃ cs, e = .returned (.tuple #[.agg cs, .int .i64 (c : Int)]) ∧ cs.size = 32 ∧ cs.all (·.oneCell') = true ∧ Hid (∀ w'', w'.heap.size ≤ w''.heap.size → (∀ g, g < w'.heap.size → (g < w0.heap.size ∨ w.heap.size ≤ g) → w''.heap[g]? = w'.heap[g]?) → RdT w'' cs lv vs) ∧ Below w.heap.size w w' := h
end Go.Proofs.YtbdfcgffkonbiaaDoor
namespace Go.Proofs.YtbdfcgffkonbiaaDoor.V7
open Go Go.RowKit
set_option linter.unusedVariables false
set_option linter.unusedSimpArgs false
theorem ret_str {a b : ByteArray} (h : a = b) : Ending.returned (.string a) = Ending.returned (.string b) := by rw [h]
theorem one_str (c : UInt8) (l : List UInt8) : (ByteArray.mk #[c]) ++ str l = str (c :: l) := by
  rw [show ByteArray.mk #[c] = str [c] from rfl, str_append]; rfl
theorem rd_block {w : World} {g : Nat} {l : List UInt8} {t : TypeId} (h : w.heap[g]? = some (.cells (l.map bv).toArray t (0, 0))) (hm : l.length ≤ maxLen) : Rd w (.slice (some ⟨g, 0, none⟩) l.length l.length) l := by
  refine ⟨some ⟨g, 0, none⟩, l.length, rfl, Nat.le_refl _, hm, by simp, ?_⟩
  intro _
  refine ⟨g, 0, rfl, lt_of_block h, ?_⟩
  intro i hi
  rw [Nat.zero_add, block_cell h]
  simp [hi]
theorem conv_one (w : World) (i : Int) (c : UInt8) (n : Int) (hn : n = (c.toNat : Int)) : (convert 126 9 (.slice (some ⟨w.heap.size + 1, 0, none⟩) 1 1)).run Tryd.prog ((w.alloc (.cells #[.int .i64 1, .int .i64 i, .string (str [])] 43)).alloc (.cells #[.int .u8 n] 5)) = .ok (.string (str [c])) ((w.alloc (.cells #[.int .i64 1, .int .i64 i, .string (str [])] 43)).alloc (.cells #[.int .u8 n] 5)) := by
  subst hn
  have q := (two_allocs w (.cells #[.int .i64 1, .int .i64 i, .string (str [])] 43) (.cells #[.int .u8 (c.toNat : Int)] 5)).2.1
  exact conv_rd (P := Tryd.prog) (rd_block (l := [c]) q (by simp [maxLen])) 126 5 9 Tryd.underlying126 Tryd.underlying5 Tryd.underlying9
set_option maxRecDepth 100000 in
theorem refEncode_any (k i : Int) (s : List UInt8) (w : World) (hs : s.length ≤ maxLen) (hI : I64 i) (hm : mayB ⟨k, i, s⟩ = true) :
    Calls Tryd.prog 62 #[.agg #[.int .i64 k, .int .i64 i, .string (str s)]] w fun e w' => e = .returned (.string (str (encL ⟨k, i, s⟩))) ∧ Below w.heap.size w w' := by
  have hc := hm
  simp only [mayB, decide_eq_true_eq] at hc
  rcases hc with ⟨rfl, rfl, rfl⟩ | ⟨rfl, h2, rfl⟩ | ⟨rfl, rfl⟩ | ⟨rfl, rfl, h3⟩
  · have e : encL ⟨0, 0, []⟩ = [0] := by decide
    rw [e]
    clear e hm hs hI
    go_enter Tryd.func62, Tryd.ntmps62
    go_wp2_with fail
    go_ret
    exact ⟨ret_str rfl, (Below.refl _ _).alloc (Nat.le_refl _) _⟩
  · rcases h2 with rfl | rfl
    · have e : encL ⟨1, 0, []⟩ = [1, 0] := by decide
      rw [e]
      clear e hm hs hI
      have k1 := conv_one w 0 0 0 rfl
      go_enter Tryd.func62, Tryd.ntmps62
      go_wp2_with fail
      go_ret
      exact ⟨ret_str rfl, ((Below.refl _ _).alloc (Nat.le_refl _) _).alloc (by simp) _⟩
    · have e : encL ⟨1, 1, []⟩ = [1, 1] := by decide
      rw [e]
      clear e hm hs hI
      have k1 := conv_one w 1 1 1 rfl
      go_enter Tryd.func62, Tryd.ntmps62
      go_wp2_with fail
      go_ret
      exact ⟨ret_str rfl, ((Below.refl _ _).alloc (Nat.le_refl _) _).alloc (by simp) _⟩
  · have e : encL ⟨2, i, []⟩ = 2 :: putL (zigN i) := by unfold encL; rw [if_neg (by rw [hm]; simp)]; rfl
    rw [e]
    have ZI := fun w => zig_any i hI w
    have PU := fun w => refPut_any (zigN i : Int) (zigN i) rfl (zigN_u64 hI) w
    have hsz : (str (putL (zigN i))).size ≤ 10 := by rw [str_size]; exact (putL_len _).2
    generalize putL (zigN i) = l at PU hsz
    generalize zigN i = z at ZI PU
    clear e hm hs hI
    have bel : ∀ o, Below w.heap.size w (w.alloc o) := fun o => (Below.refl _ _).alloc (Nat.le_refl _) o
    go_enter Tryd.func62, Tryd.ntmps62
    go_wp2_with fail
    refine (ZI _).mono ?_
    rintro e w1 ⟨rfl, rfl⟩
    go_wp2_with fail
    refine (PU _).mono ?_
    rintro e w1 ⟨rfl, g⟩
    go_wp2_with fail
    go_ret
    exact ⟨ret_str (one_str 2 l), (bel _).trans (g.mono (bel _).size)⟩
  · have e : encL ⟨3, 0, s⟩ = 3 :: (putL s.length ++ s) := by unfold encL; rw [if_neg (by rw [hm]; simp)]; simp [textL]; omega
    rw [e]
    have TX := fun w => refText_at s (by omega) w
    have hsz : (str (putL s.length ++ s)).size ≤ 74 := by rw [str_size, List.length_append]; have := (putL_len s.length).2; omega
    generalize putL s.length ++ s = l at TX hsz
    clear e hm hs hI
    have bel : ∀ o, Below w.heap.size w (w.alloc o) := fun o => (Below.refl _ _).alloc (Nat.le_refl _) o
    go_enter Tryd.func62, Tryd.ntmps62
    go_wp2_with fail
    refine (TX _).mono ?_
    rintro e w1 ⟨rfl, g⟩
    go_wp2_with fail
    go_ret
    exact ⟨ret_str (one_str 3 l), (bel _).trans (g.mono (bel _).size)⟩
end Go.Proofs.YtbdfcgffkonbiaaDoor.V7
namespace Go.Proofs.YtbdfcgffkonbiaaDoor
open Go.ChangeMaps (open_string)
open Go Go.ChangeShapes Go.WideShapes Go.ChangeAt Go.RowKit Go.Joins
set_option linter.unusedVariables false
set_option linter.unusedSimpArgs false
set_option maxRecDepth 100000
theorem item_cells : Tryd.prog.cellsOf 53 = 5 := by kernel_rfl
theorem value_cells9 : Tryd.prog.cellsOf 43 = 3 := by kernel_rfl
theorem int_cells9 : Tryd.prog.cellsOf 3 = 1 := by kernel_rfl
theorem int64_cells9 : Tryd.prog.cellsOf 2 = 1 := by kernel_rfl
theorem string_cells9 : Tryd.prog.cellsOf 9 = 1 := by kernel_rfl
theorem i64_wf {x : Int} (h : (Lit.int .i64 x).wf = true) : I64 x := by
  simp [Lit.wf, IntKind.min, IntKind.max, IntKind.signed, IntKind.bits] at h
  unfold I64; omega
section
variable {H : Type} {enc : TypeId × Value → H}
theorem item_of {W : World} {base : Nat} {sp : Nat → Bool} {fuel : Nat} {u0 u1 u2 u3 u4 : Value} {hd : Bool} {y : DataW H × List MemPlace}
    (hy : DataW.trod enc Tryd.prog W base sp hd fuel 53 [u0, u1, u2, u3, u4] = some y) :
    ∃ x : It, [u0, u1, u2, u3, u4] = itC x ∧ x.key.length ≤ maxLen ∧ x.v.s.length ≤ maxLen ∧ I64 x.v.i := by
  obtain ⟨xs, n, _, hx, _, hlen, hg⟩ := DataW.trod_struct Tryd.underlying53 hy
  match xs, hlen with
  | [y0, y1, y2], _ =>
    have h0 := hg 0 _ rfl
    have h1 := hg 1 _ rfl
    have h2 := hg 2 _ rfl
    simp [item_cells, value_cells9, int_cells9, string_cells9] at h0 h1 h2
    obtain ⟨a0, e0, _, w0⟩ := DataW.trod_string Tryd.underlying9 h0
    obtain ⟨a2, e2, _, w2⟩ := DataW.trod_int Tryd.underlying3 h2
    obtain ⟨ys, m, _, hy1, _, hlen1, hg1⟩ := DataW.trod_struct Tryd.underlying43 h1
    match ys, hlen1 with
    | [z0, z1, z2], _ =>
      have k0 := hg1 0 _ rfl
      have k1 := hg1 1 _ rfl
      have k2 := hg1 2 _ rfl
      simp [int_cells9, int64_cells9, string_cells9] at k0 k1 k2
      obtain ⟨b0, f0, _, x0⟩ := DataW.trod_int Tryd.underlying3 k0
      obtain ⟨b1, f1, _, x1⟩ := DataW.trod_int Tryd.underlying2 k1
      obtain ⟨b2, f2, _, x2⟩ := DataW.trod_string Tryd.underlying9 k2
      simp at e0 e2 f0 f1 f2
      subst e0 e2 f0 f1 f2
      refine ⟨⟨a0.data.toList, ⟨b0, b1, b2.data.toList⟩, a2⟩, ?_, ?_, ?_, i64_wf x1⟩
      · unfold itC; rw [str_of, str_of]
      · show a0.data.toList.length ≤ maxLen
        rw [Array.length_toList]; exact w0
      · show b2.data.toList.length ≤ maxLen
        rw [Array.length_toList]; exact x2
theorem open_items_at {W : World} {base : Nat} {fuel : Nat} {hd : Bool} {v : Value} {y : DataW H × List MemPlace}
    (hf : DataW.trod enc Tryd.prog W base (fun _ => true) hd fuel 22 [v] = some y) : ∃ l : List It, RdI W v l ∧ SzI l ∧ WfI l := by
  rcases DataW.trod_slice Tryd.underlying22 hf with ⟨hcs, _⟩ | ⟨x, l, c, elems, rest, n, _, hcs, _, hb, hl, hm, hlen, hel, _, _⟩
  · simp at hcs
    subst hcs
    exact ⟨[], rdk_nil W, fun x hx => by simp at hx, fun x hx => by simp at hx⟩
  · simp at hcs
    subst hcs
    obtain ⟨len, rfl⟩ : ∃ len, len = l := ⟨_, rfl⟩
    obtain ⟨cap, rfl⟩ : ∃ cap, cap = c := ⟨_, rfl⟩
    by_cases h0 : len = 0
    · subst h0
      exact ⟨[], ⟨some x, cap, rfl, Nat.zero_le _, hm, by simp, by simp⟩, fun x hx => by simp at hx, fun x hx => by simp at hx⟩
    obtain ⟨b, off, sp⟩ := x
    have hs : sp = none := by
      have h1 := hel 0 (by omega)
      rw [List.getElem?_eq_getElem (by omega : 0 < elems.length), Option.bind_eq_some_iff] at h1
      obtain ⟨cs0, q2, _⟩ := h1
      rw [item_cells] at q2
      have q3 := World.cells?_some q2
      have q4 := q3.2.2 0 (by omega)
      have hl0 : 0 < cs0.length := by have := q3.2.1; omega
      rw [List.getElem?_eq_getElem hl0] at q4
      simpa [Addr.add] using World.cell?_spot q4
    subst hs
    have each : ∀ j, j < len → ∃ it : It, (∀ i, i < 5 → W.cell? ⟨b, off + (j * 5 + i), none⟩ = (itC it)[i]?) ∧ it.key.length ≤ maxLen ∧ it.v.s.length ≤ maxLen ∧ I64 it.v.i := by
      intro j hj
      have h1 := hel j hj
      rw [List.getElem?_eq_getElem (by omega : j < elems.length), Option.bind_eq_some_iff] at h1
      obtain ⟨cs, hc1, hy⟩ := h1
      rw [item_cells] at hc1
      obtain ⟨_, hl5, hcell⟩ := World.cells?_some hc1
      match cs, hl5 with
      | [u0, u1, u2, u3, u4], _ =>
        obtain ⟨it, hx, q1, q2, q3⟩ := item_of hy
        refine ⟨it, fun i hi => ?_, q1, q2, q3⟩
        have := hcell i hi
        rw [hx, Addr.add_lit, Addr.add_lit, Nat.add_assoc] at this
        exact this
    have pick : ∃ f : Nat → It, ∀ j, j < len → (∀ i, i < 5 → W.cell? ⟨b, off + (j * 5 + i), none⟩ = (itC (f j))[i]?) ∧ (f j).key.length ≤ maxLen ∧ (f j).v.s.length ≤ maxLen ∧ I64 (f j).v.i := by
      refine ⟨fun j => if h : j < len then (each j h).choose else ⟨[], ⟨0, 0, []⟩, 0⟩, fun j hj => ?_⟩
      simp only [hj, dite_true]
      exact (each j hj).choose_spec
    obtain ⟨f, hf2⟩ := pick
    have hL : ((List.range len).map f).length = len := by simp
    have mem : ∀ y ∈ (List.range len).map f, ∃ j, j < len ∧ y = f j := fun y hy => by
      obtain ⟨j, hj, rfl⟩ := List.mem_map.1 hy
      exact ⟨j, List.mem_range.1 hj, rfl⟩
    refine ⟨(List.range len).map f, ⟨some ⟨b, off, none⟩, cap, by rw [hL], by rw [hL]; exact hl, hm, by simp, ?_⟩, ?_, ?_⟩
    · rw [hL]
      intro h0
      have c0 := (hf2 0 h0).1 0 (by omega)
      have hb0 : b < W.heap.size := by
        have : W.cell? ⟨b, off + (0 * 5 + 0), none⟩ = some (.string (str (f 0).key)) := c0
        exact World.block_lt_of_cell? W _ this
      refine ⟨b, off, rfl, hb0, fun t ht => ?_⟩
      have hj : t / 5 < len := by omega
      have h1 := (hf2 (t / 5) hj).1 (t % 5) (by omega)
      have e1 : t / 5 * 5 + t % 5 = t := by omega
      have h2 := flat_get itC_len ((List.range len).map f) (t / 5) (t % 5) (by rw [hL]; exact hj) (by omega)
      rw [e1] at h1 h2
      rw [h1, h2]
      simp
    · intro y hy
      obtain ⟨j, hj, rfl⟩ := mem y hy
      exact ⟨(hf2 j hj).2.1, (hf2 j hj).2.2.1⟩
    · intro y hy
      obtain ⟨j, hj, rfl⟩ := mem y hy
      exact (hf2 j hj).2.2.2
end
end Go.Proofs.YtbdfcgffkonbiaaDoor
namespace Go.Proofs.YtbdfcgffkonbiaaDoor
open Go Go.ChangeShapes Go.WideShapes Go.ChangeAt Go.RowKit Go.Joins
set_option linter.unusedVariables false
set_option linter.unusedSimpArgs false
set_option maxRecDepth 100000
theorem items_cells : Tryd.prog.cellsOf 22 = 1 := by kernel_rfl
def WfT (lv : Nat → List It) : Prop := ∀ b, b < 16 → WfI (lv b)
theorem one_of {l : List Value} {i n : Nat} (hi : i < n) (hl : l.length = n) : ∃ v, l[i]? = some v ∧ (l.drop i).take 1 = [v] := by
  have h : i < l.length := by omega
  refine ⟨l[i], List.getElem?_eq_getElem h, ?_⟩
  rw [List.drop_eq_getElem_cons h]; rfl
section
variable {H : Type} {enc : TypeId × Value → H}
end
end Go.Proofs.YtbdfcgffkonbiaaDoor
namespace Go.Proofs.YtbdfcgffkonbiaaDoor
open Go Go.RowKit
set_option linter.unusedVariables false
set_option linter.unusedSimpArgs false
def allN (lv : Nat → List It) (n : Nat) : List It := (List.range n).flatMap lv
theorem allN_succ (lv : Nat → List It) (n : Nat) : allN lv (n + 1) = allN lv n ++ lv n := by
  unfold allN; rw [List.range_succ, List.flatMap_append]; simp
theorem allN_len {lv : Nat → List It} (n : Nat) (h : ∀ b, b < n → (lv b).length ≤ 100) : (allN lv n).length ≤ n * 100 := by
  induction n with
  | zero => simp [allN]
  | succ n ih => rw [allN_succ, List.length_append]; have := ih (fun b hb => h b (by omega)); have := h n (by omega); omega
theorem sum_len (lv : Nat → List It) (n : Nat) : sumN List.length lv n = (allN lv n).length := by
  induction n with
  | zero => rfl
  | succ n ih => rw [sumN_succ, allN_succ, List.length_append, ih]
theorem wtL_app (a b : List It) : wtL (a ++ b) = wtL a + wtL b := by unfold wtL; rw [List.map_append, List.sum_append]
theorem sum_wt {lv : Nat → List It} (n : Nat) (h : ∀ b, b < n → isL (lv b) = true) : sumN weightL lv n = wtL (allN lv n) := by
  induction n with
  | zero => rfl
  | succ n ih =>
    rw [sumN_succ, allN_succ, wtL_app, ih (fun b hb => h b (by omega))]
    congr 1
    unfold weightL; rw [if_pos (h n (by omega))]
theorem wtL_le : ∀ l : List It, (∀ x ∈ l, wtI x ≤ 99) → wtL l ≤ 99 * l.length
  | [], _ => by simp [wtL]
  | x :: r, h => by
    have h1 := h x (by simp)
    have h2 := wtL_le r (fun y hy => h y (by simp [hy]))
    have e : wtL (x :: r) = wtI x + wtL r := by simp [wtL]
    rw [e, List.length_cons]; omega
theorem wtI_le {x : It} (h : mayI x = true) : wtI x ≤ 99 := by
  have h1 := may_key h
  have h2 := encL_max x.v
  unfold wtI; omega
theorem weightL_le (l : List It) : weightL l ≤ 100000 := by
  unfold weightL
  split
  · rename_i h
    have h1 := isL_len h
    have h2 := wtL_le l (fun x hx => wtI_le (isL_may h x hx))
    omega
  · omega
theorem fewT_wf {lv : Nat → List It} (h : WfT lv) : WfT (fun b => fewL (lv b)) := by
  intro b hb x hx
  change x ∈ fewL (lv b) at hx
  unfold fewL at hx
  obtain ⟨y, hy, rfl⟩ := List.mem_map.1 hx
  exact h b hb y (List.mem_of_mem_take hy)
theorem mem_allN {lv : Nat → List It} {n : Nat} {x : It} (h : x ∈ allN lv n) : ∃ b, b < n ∧ x ∈ lv b := by
  unfold allN at h
  obtain ⟨b, hb, hx⟩ := List.mem_flatMap.1 h
  exact ⟨b, List.mem_range.1 hb, hx⟩
set_option maxRecDepth 100000 in
theorem tweight_any (cs : Array Value) (lv : Nat → List It) (vs : Nat → Int) (w : World) (tab : TabAt w) (h : RdT w cs lv vs) (hsz : SzT lv) (hwf : WfT lv) :
    Calls Tryd.prog 54 #[.agg cs] w fun e w' => e = .returned (.int .i64 (sumT weightL lv vs : Int)) ∧ Below w.heap.size w w' := by
  have hs := infoTc h.size
  have q2 := heap_alloc_new w (.cells cs 26)
  have bel := (Below.refl w.heap.size w).alloc (Nat.le_refl _) (.cells cs 26)
  have SU := Lib.hid (sum_any 89 weightL cs lv vs _ (tab.below bel) (h.below bel (Nat.le_refl _)) hsz (fun b hb W u t hr => weight_any u (lv b) W t hr (hsz b hb) (hwf b hb)) (fun b hb => weightL_le _) (fun args w => by kernel_rfl))
  obtain ⟨R, hR⟩ : ∃ R, R = sumT weightL lv vs := ⟨_, rfl⟩
  rw [← hR] at SU ⊢
  clear hR h hsz tab hwf
  go_enter Tryd.func54, Tryd.ntmps54
  go_wp2_with (with_reducible refine wpList_load_row (o := ⟨some 3, _, _, _, _, _⟩) rfl 26 (.tmp 1) rfl _ rfl _ cs (0, 0) _ q2 Tryd.underlying26 rfl hs ?_)
  refine SU.out.mono ?_
  rintro e w1 ⟨rfl, g⟩
  replace bel := chain bel g
  clear g q2
  go_wp2_with fail
  go_ret
  exact ⟨rfl, bel⟩
set_option maxRecDepth 100000 in
set_option maxHeartbeats 1000000 in
theorem all_any (cs : Array Value) (lv : Nat → List It) (vs : Nat → Int) (w : World) (h : RdT w cs lv vs) (h100 : ∀ b, b < 16 → (lv b).length ≤ 100) :
    Calls Tryd.prog 23 #[.agg cs] w (OwnI w (allN lv 16)) := by
  obtain ⟨i0, hi, hz0, hz1, hz2⟩ := info_parts item_info
  have HT := Lib.hid h
  have HL := Lib.hid h100
  obtain ⟨Z, hZ⟩ : ∃ Z, Z = OwnI w (allN lv 16) := ⟨_, rfl⟩
  rw [← hZ]
  have HZ := Lib.hid hZ
  have q1 := heap_alloc_new w (.cells cs 26)
  have bel := (Below.refl w.heap.size w).alloc (Nat.le_refl _) (.cells cs 26)
  clear h h100 hZ
  go_enter Tryd.func23, Tryd.ntmps23
  go_wp2_with fail
  obtain ⟨wl, hwl⟩ : ∃ wl, wl = w.alloc (.cells cs 26) := ⟨_, rfl⟩
  rw [← hwl] at q1 bel ⊢
  clear hwl
  have hl : w.heap.size + 1 ≤ wl.heap.size := lt_of_block q1
  have Q1 := Lib.hid q1
  have BELL := Lib.hid bel
  clear q1 bel
  go_loopw [4, 3] (fun i v wr => ∃ (b : Nat) (X : List It), b ≤ 16 ∧ i = .int .i64 (b : Int) ∧ Hid (X = allN lv b) ∧ X.length ≤ b * 100 ∧ wr.ownsRow (w.heap.size + 1) 53 5 v X.length (X.flatMap itC) ∧ Below (w.heap.size + 1) wl wr) (fun i _ _ => 20 - (intOf i).toNat)
  case atStart => exact ⟨0, [], by omega, rfl, Lib.hid rfl, Nat.le_refl _, World.ownsRow_nil _ _ _ _, Below.refl _ _⟩
  case round =>
    obtain ⟨b, X, hb, rfl, HX, hX, own, belL⟩ := hrel
    have bel := BELL.out.trans (belL.mono (Nat.le_add_right _ 1))
    have q1 := (belL.block _ (by omega)).trans Q1.out
    by_cases hlt : b < 16
    · have hlti : (b : Int) < 16 := by omega
      obtain ⟨u, hu, hru⟩ := HT.out.leaf b hlt
      have c1 := (block_cell q1 b).trans hu
      have l1 := HL.out b hlt
      have HN := Lib.hid (show X ++ lv b = allN lv (b + 1) by rw [allN_succ, ← HX.out])
      have HRD := Lib.hid (hru.below bel (Nat.le_refl _))
      clear hu hru
      go_wp2_with (at_builtin; refine wpList_app_rdk itC_len (by decide) wl rfl (.tmp 9) (.tmp 13) 22 rfl (w.heap.size + 1) 53 i0 (.agg #[.string ⟨#[]⟩, .int .i64 0, .int .i64 0, .string ⟨#[]⟩, .int .i64 0]) 56 Tryd.underlying22 hi hz0 hz1 hz2 rfl _ X rfl own u (lv b) rfl HRD.out itC_one (by unfold maxLen; omega) (by omega) hl belL ?_; intro v9 w9 own9 b9 hq9; clear hq9)
      exact ⟨⟨b + 1, X ++ lv b, by omega, by push_cast; rfl, HN, by rw [List.length_append]; omega, own9, b9⟩, by simp [intOf]; omega⟩
    · obtain rfl : b = 16 := by omega
      go_wp2_with fail
      show Z (.returned _) _
      rw [HZ.out, ← HX.out]
      exact ⟨_, rfl, own_base own (by omega), bel⟩
end Go.Proofs.YtbdfcgffkonbiaaDoor
