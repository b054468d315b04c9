/- Leaves: items among the arguments. -/
/- Leaves: what the library makes of lists of items: Grow, Concat, Clone; cuts of a list. Written by wip/tools/gen9e.py. -/
import Derived.Test.YtbdfcgffkonbiaaDoorQSN12
import Derived.Lib.SmallJoins
import Derived.ProofKit
import Derived.OpenShut
import Derived.SliceStrings
import Derived.ChangeOld
import Derived.Test.YtbdfcgffkonbiaaDoorQSN9
import Derived.Lib.AppendZeros
import Derived.Lib.BufferMore
namespace Go.Proofs.YtbdfcgffkonbiaaDoor
open Go.ChangeMaps (open_string)
open Go Go.ChangeShapes Go.WideShapes Go.ChangeAt Go.RowKit Go.Joins
set_option linter.unusedVariables false
set_option linter.unusedSimpArgs false
set_option maxRecDepth 100000
theorem item_cells : Tryd.prog.cellsOf 53 = 5 := by kernel_rfl
theorem value_cells9 : Tryd.prog.cellsOf 43 = 3 := by kernel_rfl
theorem int_cells9 : Tryd.prog.cellsOf 3 = 1 := by kernel_rfl
theorem int64_cells9 : Tryd.prog.cellsOf 2 = 1 := by kernel_rfl
theorem string_cells9 : Tryd.prog.cellsOf 9 = 1 := by kernel_rfl
theorem array5 {α : Type} {cs : Array α} (h : cs.size = 5) : ∃ c0 c1 c2 c3 c4, cs = #[c0, c1, c2, c3, c4] := by
  obtain ⟨l⟩ := cs
  match l, h with
  | [c0, c1, c2, c3, c4], _ => exact ⟨c0, c1, c2, c3, c4, rfl⟩
theorem i64_wf {x : Int} (h : (Lit.int .i64 x).wf = true) : I64 x := by
  simp [Lit.wf, IntKind.min, IntKind.max, IntKind.signed, IntKind.bits] at h
  unfold I64; omega
section
variable {H : Type} {enc : TypeId × Value → H}
theorem item_of {W : World} {base : Nat} {sp : Nat → Bool} {fuel : Nat} {u0 u1 u2 u3 u4 : Value} {hd : Bool} {y : DataW H × List MemPlace}
    (hy : DataW.trod enc Tryd.prog W base sp hd fuel 53 [u0, u1, u2, u3, u4] = some y) :
    ∃ x : It, [u0, u1, u2, u3, u4] = itC x ∧ x.key.length ≤ maxLen ∧ x.v.s.length ≤ maxLen ∧ I64 x.v.i := by
  obtain ⟨xs, n, _, hx, _, hlen, hg⟩ := DataW.trod_struct Tryd.underlying53 hy
  match xs, hlen with
  | [y0, y1, y2], _ =>
    have h0 := hg 0 _ rfl
    have h1 := hg 1 _ rfl
    have h2 := hg 2 _ rfl
    simp [item_cells, value_cells9, int_cells9, string_cells9] at h0 h1 h2
    obtain ⟨a0, e0, _, w0⟩ := DataW.trod_string Tryd.underlying9 h0
    obtain ⟨a2, e2, _, w2⟩ := DataW.trod_int Tryd.underlying3 h2
    obtain ⟨ys, m, _, hy1, _, hlen1, hg1⟩ := DataW.trod_struct Tryd.underlying43 h1
    match ys, hlen1 with
    | [z0, z1, z2], _ =>
      have k0 := hg1 0 _ rfl
      have k1 := hg1 1 _ rfl
      have k2 := hg1 2 _ rfl
      simp [int_cells9, int64_cells9, string_cells9] at k0 k1 k2
      obtain ⟨b0, f0, _, x0⟩ := DataW.trod_int Tryd.underlying3 k0
      obtain ⟨b1, f1, _, x1⟩ := DataW.trod_int Tryd.underlying2 k1
      obtain ⟨b2, f2, _, x2⟩ := DataW.trod_string Tryd.underlying9 k2
      simp at e0 e2 f0 f1 f2
      subst e0 e2 f0 f1 f2
      refine ⟨⟨a0.data.toList, ⟨b0, b1, b2.data.toList⟩, a2⟩, ?_, ?_, ?_, i64_wf x1⟩
      · unfold itC; rw [str_of, str_of]
      · show a0.data.toList.length ≤ maxLen
        rw [Array.length_toList]; exact w0
      · show b2.data.toList.length ≤ maxLen
        rw [Array.length_toList]; exact x2
theorem open_item {W : World} {r : Reach} {base b0 : Nat} {sp : Nat → Bool} {hd : Bool} {v : Value} {d : DataW H} {p : List MemPlace}
    (hval : Value.okWide Tryd.prog W r b0 53 v) (h : DataW.Trod enc Tryd.prog W base sp hd 53 v d p) : ∃ x : It, v = itV x ∧ x.key.length ≤ maxLen ∧ x.v.s.length ≤ maxLen ∧ I64 x.v.i := by
  obtain ⟨cs, rfl, hsz⟩ := okWide_struct Tryd.underlying53 hval
  obtain ⟨c0, c1, c2, c3, c4, rfl⟩ := array5 (hsz.trans item_cells)
  obtain ⟨fuel, hf⟩ := h
  obtain ⟨x, hx, h1, h2, h3⟩ := item_of (u0 := c0) (u1 := c1) (u2 := c2) (u3 := c3) (u4 := c4) hf
  refine ⟨x, ?_, h1, h2, h3⟩
  simp only [itC, List.cons.injEq, and_true] at hx
  obtain ⟨rfl, rfl, rfl, rfl, rfl⟩ := hx
  rfl
theorem open_items_at {W : World} {base : Nat} {fuel : Nat} {hd : Bool} {v : Value} {y : DataW H × List MemPlace}
    (hf : DataW.trod enc Tryd.prog W base (fun _ => true) hd fuel 22 [v] = some y) : ∃ l : List It, RdI W v l ∧ SzI l ∧ WfI l := by
  rcases DataW.trod_slice Tryd.underlying22 hf with ⟨hcs, _⟩ | ⟨x, l, c, elems, rest, n, _, hcs, _, hb, hl, hm, hlen, hel, _, _⟩
  · simp at hcs
    subst hcs
    exact ⟨[], rdk_nil W, fun x hx => by simp at hx, fun x hx => by simp at hx⟩
  · simp at hcs
    subst hcs
    obtain ⟨len, rfl⟩ : ∃ len, len = l := ⟨_, rfl⟩
    obtain ⟨cap, rfl⟩ : ∃ cap, cap = c := ⟨_, rfl⟩
    by_cases h0 : len = 0
    · subst h0
      exact ⟨[], ⟨some x, cap, rfl, Nat.zero_le _, hm, by simp, by simp⟩, fun x hx => by simp at hx, fun x hx => by simp at hx⟩
    obtain ⟨b, off, sp⟩ := x
    have hs : sp = none := by
      have h1 := hel 0 (by omega)
      rw [List.getElem?_eq_getElem (by omega : 0 < elems.length), Option.bind_eq_some_iff] at h1
      obtain ⟨cs0, q2, _⟩ := h1
      rw [item_cells] at q2
      have q3 := World.cells?_some q2
      have q4 := q3.2.2 0 (by omega)
      have hl0 : 0 < cs0.length := by have := q3.2.1; omega
      rw [List.getElem?_eq_getElem hl0] at q4
      simpa [Addr.add] using World.cell?_spot q4
    subst hs
    have each : ∀ j, j < len → ∃ it : It, (∀ i, i < 5 → W.cell? ⟨b, off + (j * 5 + i), none⟩ = (itC it)[i]?) ∧ it.key.length ≤ maxLen ∧ it.v.s.length ≤ maxLen ∧ I64 it.v.i := by
      intro j hj
      have h1 := hel j hj
      rw [List.getElem?_eq_getElem (by omega : j < elems.length), Option.bind_eq_some_iff] at h1
      obtain ⟨cs, hc1, hy⟩ := h1
      rw [item_cells] at hc1
      obtain ⟨_, hl5, hcell⟩ := World.cells?_some hc1
      match cs, hl5 with
      | [u0, u1, u2, u3, u4], _ =>
        obtain ⟨it, hx, q1, q2, q3⟩ := item_of hy
        refine ⟨it, fun i hi => ?_, q1, q2, q3⟩
        have := hcell i hi
        rw [hx, Addr.add_lit, Addr.add_lit, Nat.add_assoc] at this
        exact this
    have pick : ∃ f : Nat → It, ∀ j, j < len → (∀ i, i < 5 → W.cell? ⟨b, off + (j * 5 + i), none⟩ = (itC (f j))[i]?) ∧ (f j).key.length ≤ maxLen ∧ (f j).v.s.length ≤ maxLen ∧ I64 (f j).v.i := by
      refine ⟨fun j => if h : j < len then (each j h).choose else ⟨[], ⟨0, 0, []⟩, 0⟩, fun j hj => ?_⟩
      simp only [hj, dite_true]
      exact (each j hj).choose_spec
    obtain ⟨f, hf2⟩ := pick
    have hL : ((List.range len).map f).length = len := by simp
    have mem : ∀ y ∈ (List.range len).map f, ∃ j, j < len ∧ y = f j := fun y hy => by
      obtain ⟨j, hj, rfl⟩ := List.mem_map.1 hy
      exact ⟨j, List.mem_range.1 hj, rfl⟩
    refine ⟨(List.range len).map f, ⟨some ⟨b, off, none⟩, cap, by rw [hL], by rw [hL]; exact hl, hm, by simp, ?_⟩, ?_, ?_⟩
    · rw [hL]
      intro h0
      have c0 := (hf2 0 h0).1 0 (by omega)
      have hb0 : b < W.heap.size := by
        have : W.cell? ⟨b, off + (0 * 5 + 0), none⟩ = some (.string (str (f 0).key)) := c0
        exact World.block_lt_of_cell? W _ this
      refine ⟨b, off, rfl, hb0, fun t ht => ?_⟩
      have hj : t / 5 < len := by omega
      have h1 := (hf2 (t / 5) hj).1 (t % 5) (by omega)
      have e1 : t / 5 * 5 + t % 5 = t := by omega
      have h2 := flat_get itC_len ((List.range len).map f) (t / 5) (t % 5) (by rw [hL]; exact hj) (by omega)
      rw [e1] at h1 h2
      rw [h1, h2]
      simp
    · intro y hy
      obtain ⟨j, hj, rfl⟩ := mem y hy
      exact ⟨(hf2 j hj).2.1, (hf2 j hj).2.2.1⟩
    · intro y hy
      obtain ⟨j, hj, rfl⟩ := mem y hy
      exact (hf2 j hj).2.2.2
theorem open_items {W : World} {r : Reach} {base b0 : Nat} {hd : Bool} {v : Value} {d : DataW H} {p : List MemPlace}
    (hval : Value.okWide Tryd.prog W r b0 22 v) (h : DataW.Trod enc Tryd.prog W base (fun _ => true) hd 22 v d p) : ∃ l : List It, RdI W v l ∧ SzI l ∧ WfI l := by
  obtain ⟨a, len, cap, rfl⟩ := okWide_slice Tryd.underlying22 hval
  obtain ⟨fuel, hf⟩ := h
  exact open_items_at (by simpa [Value.cells] using hf)
theorem open_text9 {W : World} {r : Reach} {base b0 : Nat} {sp : Nat → Bool} {hd : Bool} {v : Value} {d : DataW H} {p : List MemPlace}
    (hval : Value.okWide Tryd.prog W r b0 9 v) (h : DataW.Trod enc Tryd.prog W base sp hd 9 v d p) : ∃ s : List UInt8, v = .string (str s) ∧ s.length ≤ maxLen := by
  obtain ⟨a, rfl, _, _, w⟩ := open_string Tryd.underlying9 hval h
  exact ⟨a.data.toList, by rw [str_of], by rw [Array.length_toList]; exact w⟩
end
end Go.Proofs.YtbdfcgffkonbiaaDoor
namespace Go.Proofs.YtbdfcgffkonbiaaDoor
open Go Go.RowKit
set_option linter.unusedVariables false
set_option linter.unusedSimpArgs false
/-- Each operation that cuts a list from i to j hands A back. -/
def CutOp (ao : Option Addr) (n cap i j : Nat) (A : Value) : Prop := ∀ (op : Oper) (a : Act) (s : Operand) (x y : Option Operand), op.op = .slice 22 s x y none → a.eval s = .slice ao n cap → ((x = none ∧ i = 0) ∨ ∃ u kx, x = some u ∧ a.eval u = .int kx (i : Int)) → ((y = none ∧ j = n) ∨ ∃ u ky, y = some u ∧ a.eval u = .int ky (j : Int)) → ∀ w', (execOp a.eval op).run Tryd.prog w' = .ok (.value A) w'
theorem CutOp.to {ao : Option Addr} {n cap j : Nat} {A : Value} (h : CutOp ao n cap 0 j A) (op : Oper) (a : Act) (s u : Operand) (ky : IntKind) (ho : op.op = .slice 22 s none (some u) none) (hs : a.eval s = .slice ao n cap) (hu : a.eval u = .int ky (j : Int)) (w' : World) : (execOp a.eval op).run Tryd.prog w' = .ok (.value A) w' :=
  h op a s _ _ ho hs (.inl ⟨rfl, rfl⟩) (.inr ⟨_, _, rfl, hu⟩) w'
theorem CutOp.from {ao : Option Addr} {n cap i : Nat} {A : Value} (h : CutOp ao n cap i n A) (op : Oper) (a : Act) (s u : Operand) (ky : IntKind) (ho : op.op = .slice 22 s (some u) none none) (hs : a.eval s = .slice ao n cap) (hu : a.eval u = .int ky (i : Int)) (w' : World) : (execOp a.eval op).run Tryd.prog w' = .ok (.value A) w' :=
  h op a s _ _ ho hs (.inr ⟨_, _, rfl, hu⟩) (.inl ⟨rfl, rfl⟩) w'
/-- A cut of a list that is read: what it reads as, and that each operation that cuts so hands it back. -/
theorem rdi_cut {W : World} {ao : Option Addr} {n cap : Nat} {l : List It} (h : RdI W (.slice ao n cap) l) (i j : Nat) (hij : i ≤ j) (hj : j ≤ n) : ∃ A, RdI W A ((l.drop i).take (j - i)) ∧
    CutOp ao n cap i j A := by
  obtain ⟨i0, hi, hz0, hz1, hz2⟩ := info_parts item_info
  refine ⟨_, RdK.sliced itC_len h i j hij hj, ?_⟩
  intro op a s x y ho hs hx hy w'
  have hnc : n ≤ cap := by obtain ⟨_, _, he, h3, _⟩ := h; cases he; exact h3
  have b0 : (0 : Int) ≤ (i : Int) := by omega
  have b1 : (0 : Int) ≤ (j : Int) := by omega
  have b2 : (j : Int) ≤ (cap : Int) := by omega
  have b3 : (i : Int) ≤ (j : Int) := by omega
  have b4 : j ≤ cap := by omega
  have ht : Tryd.prog.underlying 22 = some (.slice 53) := Tryd.underlying22
  rcases hx with ⟨rfl, rfl⟩ | ⟨u, kx, rfl, hx⟩ <;> rcases hy with ⟨rfl, rfl⟩ | ⟨u2, ky, rfl, hy⟩
  · simp [execOp, ho, hs, Instr.sliceAt, Instr.slice, run_underlying ht, Instr.sliceBounds, Instr.sliceBound, asIntOf, sizeOf, typeInfo, hi, hz1, Result.andThen, hnc]
  · simp [execOp, ho, hs, hy, Instr.sliceAt, Instr.slice, run_underlying ht, Instr.sliceBounds, Instr.sliceBound, asIntOf, b0, b1, b2, b4, sizeOf, typeInfo, hi, hz1, Result.andThen]
  · simp [execOp, ho, hs, hx, Instr.sliceAt, Instr.slice, run_underlying ht, Instr.sliceBounds, Instr.sliceBound, asIntOf, b0, b3, sizeOf, typeInfo, hi, hz1, Result.andThen, hnc, hj, hij]
  · simp [execOp, ho, hs, hx, hy, Instr.sliceAt, Instr.slice, run_underlying ht, Instr.sliceBounds, Instr.sliceBound, asIntOf, b0, b1, b2, b3, b4, hij, sizeOf, typeInfo, hi, hz1, Result.andThen]
set_option maxRecDepth 100000 in
theorem grow_any (n : Nat) (w : World) (hn : n ≤ 100000) :
    Calls Tryd.prog 143 #[.slice none 0 0, .int .i64 (n : Int)] w (OwnI w []) := by
  obtain ⟨i0, hi, hz0, hz1, hz2⟩ := info_parts item_info
  by_cases h0 : n = 0
  · subst h0
    go_enter Tryd.func143, Tryd.ntmps143
    go_wp2_with fail
    go_ret
    exact ⟨_, rfl, World.ownsRow_nil _ _ _ _, Below.refl _ _⟩
  · have happ := fun w => Lib.run_append_nil_zeros (P := Tryd.prog) w 22 3 22 53 i0 (.agg #[.string ⟨#[]⟩, .int .i64 0, .int .i64 0, .string ⟨#[]⟩, .int .i64 0]) .i64 .i64 Tryd.underlying22 Tryd.underlying3 hi hz0 n (by omega) (by omega) (by omega) (by rw [hz2]; omega)
    have HAPP := Lib.hid (happ w)
    clear happ
    have hpos : 0 < n := by omega
    clear h0
    obtain ⟨cap2, hcap⟩ : ∃ c, c = grownCap w n 0 53 := ⟨_, rfl⟩
    have hcapge : n ≤ cap2 := by rw [hcap]; exact grownCap_ge w _ 0 53
    have hcaple : cap2 ≤ maxLen := by rw [hcap]; exact grownCap_le_maxLen w _ 0 53 (by unfold maxLen; omega)
    obtain ⟨Z, hZ⟩ : ∃ Z, Z = Builtin.zeroCells (Value.cells (.agg #[.string ⟨#[]⟩, .int .i64 0, .int .i64 0, .string ⟨#[]⟩, .int .i64 0])) n ++ Builtin.zeroCells (Value.cells (.agg #[.string ⟨#[]⟩, .int .i64 0, .int .i64 0, .string ⟨#[]⟩, .int .i64 0])) (cap2 - n) := ⟨_, rfl⟩
    have hZs : Z.size = cap2 * 5 := by rw [hZ]; simp [size_zeroCells, Value.cells]; omega
    have happ := HAPP.out
    rw [← hcap, ← hZ] at happ
    have HAPP := Lib.hid happ
    clear hcap hZ happ
    have hc2 : cap2 ≤ 9223372036854775807 := by unfold maxLen at hcaple; omega
    go_enter Tryd.func143, Tryd.ntmps143
    go_wp2_with (at_builtin; refine Lib.wpList_append_run _ rfl _ _ _ _ rfl _ _ rfl rfl _ _ HAPP.out ?_)
    go_ret
    exact ⟨_, rfl, ⟨by simp, .inr ⟨w.heap.size, cap2, Z, rfl, Nat.le_refl _, heap_alloc_new _ _, Nat.zero_le _, hcaple, hZs, by simp⟩⟩, ⟨rfl, rfl, rfl, by simp, fun k hk => Below.heap_alloc w _ k hk⟩⟩
/-- Lists of items, as a slice of slices. -/
def RdLs (w : World) (v : Value) (ls : List (List It)) : Prop := ∃ ao cap, v = .slice ao ls.length cap ∧ ls.length ≤ cap ∧ cap ≤ maxLen ∧ Hid (∀ j (h : j < ls.length), ∃ b off a2 c2, ao = some ⟨b, off, none⟩ ∧ b < w.heap.size ∧ w.cell? ⟨b, off + j, none⟩ = some (.slice a2 ls[j].length c2) ∧ ls[j].length ≤ c2 ∧ c2 ≤ 9223372036854775807 ∧ RdI w (.slice a2 ls[j].length c2) ls[j])
theorem flat_succ {ls : List (List It)} {j : Nat} (h : j < ls.length) : (ls.take (j + 1)).flatten = (ls.take j).flatten ++ ls[j] := by
  rw [List.take_add_one, List.getElem?_eq_getElem h, List.flatten_append]; simp
theorem flat_le {ls : List (List It)} (j : Nat) : (ls.take j).flatten.length ≤ ls.flatten.length := by
  conv => rhs; rw [← List.take_append_drop j ls, List.flatten_append, List.length_append]
  omega
set_option maxRecDepth 100000 in
set_option maxHeartbeats 1000000 in
theorem concat_any (v : Value) (ls : List (List It)) (w : World) (h : RdLs w v ls) (hn : ls.length ≤ 10) (ht : ls.flatten.length ≤ 1000) :
    Calls Tryd.prog 138 #[v] w (OwnI w ls.flatten) := by
  obtain ⟨i0, hi, hz0, hz1, hz2⟩ := info_parts item_info
  obtain ⟨ao, cap, rfl, hc, hm, HC⟩ := h
  unfold maxLen at hm
  obtain ⟨R, hR⟩ : ∃ R, R = ls.flatten := ⟨_, rfl⟩
  have HR := Lib.hid hR
  rw [← hR]
  have HT := Lib.hid ht
  clear hR ht
  go_enter Tryd.func138, Tryd.ntmps138
  go_wp2_with fail
  go_loop [3, 11] (fun z i => ∃ j s : Nat, j ≤ ls.length ∧ i = .int .i64 (j : Int) ∧ z = .int .i64 (s : Int) ∧ s ≤ 1000 ∧ Hid (s = (ls.take j).flatten.length)) (fun _ i => 20 - (intOf i).toNat)
  case atStart => exact ⟨0, 0, Nat.zero_le _, rfl, rfl, by omega, rfl⟩
  case round =>
    obtain ⟨j, s, hj, rfl, rfl, hs, HS⟩ := hrel
    by_cases hlt : j < ls.length
    · obtain ⟨b, off, a2, c2, rfl, hb, c0, hc2, hm2, -⟩ := HC.out j hlt
      obtain ⟨n, hnn⟩ : ∃ n, n = (ls[j]'hlt).length := ⟨_, rfl⟩
      rw [← hnn] at c0 hc2
      have h1 := flat_succ hlt
      have h2 := flat_le (ls := ls) (j + 1)
      rw [h1, List.length_append, ← hnn, ← HS.out] at h2
      have h3 := HT.out
      have HS2 : Hid (s + n = (ls.take (j + 1)).flatten.length) := Lib.hid (by rw [h1, List.length_append, ← hnn, ← HS.out])
      have h4 : s + n ≤ 1000 := by omega
      clear h1 h2 h3 hnn
      go_wp2_with fail
      exact ⟨⟨j + 1, s + n, by omega, by push_cast; rfl, by push_cast; rfl, h4, HS2⟩, by simp [intOf]; omega⟩
    · obtain rfl : j = ls.length := by omega
      have GR := grow_any s w (by omega)
      go_wp2_with fail
      refine GR.mono ?_
      rintro e w1 ⟨v0, rfl, own0, bel0⟩
      clear GR
      go_wp2_with fail
      go_loopw [6, 27] (fun out i wr => ∃ (j : Nat) (acc : List It), j ≤ ls.length ∧ i = .int .i64 (j : Int) ∧ acc.length ≤ 1000 ∧ Hid (acc = (ls.take j).flatten) ∧ wr.ownsRow w.heap.size 53 5 out acc.length (acc.flatMap itC) ∧ Below w.heap.size w wr) (fun _ i _ => 20 - (intOf i).toNat)
      case atStart => exact ⟨0, [], Nat.zero_le _, rfl, Nat.zero_le _, rfl, own0, bel0⟩
      case round =>
        obtain ⟨j, acc, hj, rfl, hacc, HA, hown, bel⟩ := hrel
        by_cases hlt : j < ls.length
        · obtain ⟨b, off, a2, c2, rfl, hb, c0, hc2, hm2, hrd⟩ := HC.out j hlt
          obtain ⟨l2, hl2⟩ : ∃ l2, l2 = ls[j]'hlt := ⟨_, rfl⟩
          rw [← hl2] at c0 hc2 hrd
          have c0 := (bel.cell (p := ⟨b, off + j, none⟩) hb).trans c0
          have hrd := hrd.below bel (Nat.le_refl _)
          have h1 := flat_succ hlt
          have h2 := flat_le (ls := ls) (j + 1)
          rw [h1, List.length_append, ← hl2, ← HA.out] at h2
          have h3 := HT.out
          have HA2 : Hid (acc ++ l2 = (ls.take (j + 1)).flatten) := Lib.hid (by rw [h1, ← hl2, ← HA.out])
          have h4 : acc.length + l2.length ≤ 1000 := by omega
          have HRD2 := Lib.hid hrd
          clear h1 h2 h3 hl2 hrd
          go_wp2_with (at_builtin; refine wpList_app_rdk itC_len (by decide) w rfl (.tmp 31) (.tmp 32) 22 rfl w.heap.size 53 i0 (.agg #[.string ⟨#[]⟩, .int .i64 0, .int .i64 0, .string ⟨#[]⟩, .int .i64 0]) 56 Tryd.underlying22 hi hz0 hz1 hz2 rfl _ _ rfl hown _ l2 rfl HRD2.out itC_one (by unfold maxLen; omega) (by omega) (Nat.le_refl _) bel ?_; intro v' w2 hown2 hb2 hq2; clear hq2)
          exact ⟨⟨j + 1, acc ++ l2, by omega, by push_cast; rfl, by simp; omega, HA2, hown2, hb2⟩, by simp [intOf]; omega⟩
        · obtain rfl : j = ls.length := by omega
          have E := Lib.hid (show R = acc by rw [HR.out, HA.out, List.take_length])
          go_wp2_with fail
          go_ret
          have e := E.out
          subst e
          exact ⟨_, rfl, hown, bel⟩
set_option maxRecDepth 100000 in
theorem clone_any (v : Value) (l : List It) (w : World) (h : RdI w v l) (h66 : l.length ≤ 1000) :
    Calls Tryd.prog 139 #[v] w (OwnI w l) := by
  obtain ⟨i0, hi, hz0, hz1, hz2⟩ := info_parts item_info
  obtain ⟨ao, cap, rfl, hc, hm, hr⟩ := RdK.open h
  cases ao with
  | none =>
    have hcap : cap = 0 := by obtain ⟨_, _, he, _, _, h4, _⟩ := hr; cases he; exact h4 rfl
    obtain rfl : l = [] := List.eq_nil_of_length_eq_zero (by omega)
    subst hcap
    have hnil : ∀ W, (binOp .eql 22 (.slice none 0 0) (.slice none 0 0)).run Tryd.prog W = .ok (.bool true) W := fun W => Lib.run_eql_slice_nil_nil W 0 0 Tryd.underlying22
    clear h hr
    go_enter Tryd.func139, Tryd.ntmps139
    go_wp2_with fail
    go_ret
    exact ⟨_, rfl, World.ownsRow_nil _ _ _ _, Below.refl _ _⟩
  | some ad =>
    have hr : RdI w (.slice (some ad) l.length cap) l := hr
    have HSZ := Lib.hid (show (w.alloc (.cells #[] 53)).heap.size = w.heap.size + 1 from by simp)
    have HLIT := Lib.hid (World.ownsRow_lit (e := 53) (size := 5) w #[] 0 (Nat.le_refl _) (by decide) rfl)
    have HRD := Lib.hid hr
    have hsome := fun W => Lib.run_eql_slice_some_nil (P := Tryd.prog) W ad l.length cap Tryd.underlying22
    clear h hr
    go_enter Tryd.func139, Tryd.ntmps139
    go_wp2_with (at_builtin; refine wpList_app_rdk itC_len (by decide) w rfl (.tmp 5) (.tmp 6) 22 rfl w.heap.size 53 i0 (.agg #[.string ⟨#[]⟩, .int .i64 0, .int .i64 0, .string ⟨#[]⟩, .int .i64 0]) 56 Tryd.underlying22 hi hz0 hz1 hz2 rfl (.slice (some ⟨w.heap.size, 0, none⟩) 0 0) [] rfl HLIT.out (.slice (some ad) l.length cap) l rfl (HRD.out.below ((Below.refl _ _).alloc (Nat.le_refl _) _) (Nat.le_refl _)) itC_one (by unfold maxLen; simp; omega) (by simp; omega) (Nat.le_refl _) ((Below.refl _ _).alloc (Nat.le_refl _) _) ?_; intro v' w1 hown2 hb2 hq2; clear hq2)
    go_ret
    exact ⟨_, rfl, hown2, hb2⟩
end Go.Proofs.YtbdfcgffkonbiaaDoor
