/- Clash: wants among the arguments. Written by wip/tools/gen23q.py. -/
import Derived.Test.YtjmfiekgpoonjaaDoorQLGC15
import Derived.Lib.SmallJoins
import Derived.ProofKit
import Derived.OpenShut
import Derived.SliceStrings
import Derived.ChangeOld
namespace Go.Proofs.YtjmfiekgpoonjaaDoor
open Go Go.ChangeShapes Go.WideShapes Go.ChangeAt Go.RowKit Go.Joins
set_option linter.unusedVariables false
set_option linter.unusedSimpArgs false
set_option maxRecDepth 100000
theorem want_cells : Tryd.prog.cellsOf 24 = 2 := by kernel_rfl
theorem strings_cells : Tryd.prog.cellsOf 22 = 1 := by kernel_rfl
section
variable {H : Type} {enc : TypeId × Value → H}
theorem open_strs_at {W : World} {base : Nat} {sp : Nat → Bool} {fuel : Nat} {hd : Bool} {a : Option Addr} {len cap : Nat} {y : DataW H × List MemPlace}
    (hf : DataW.trod enc Tryd.prog W base sp hd fuel 22 [.slice a len cap] = some y) : ∃ L : List (List UInt8), RdS W (.slice a len cap) L ∧ SzS L := by
  have el : ∀ a : ByteArray, a.data.toList.length = a.size := fun a => by rw [Array.length_toList]; rfl
  unfold RdS SzS
  rcases open_strings Tryd.underlying22 Tryd.underlying9 (by kernel_rfl) hf with ⟨hcs, _⟩ | ⟨x, l, c, ss, hcs, _, hl, hm, hz, _, hcell, hsz⟩
  · simp [Value.cells] at hcs
    obtain ⟨rfl, rfl, rfl⟩ := hcs
    exact ⟨[], rdv_nil _, by simp⟩
  · simp [Value.cells] at hcs
    obtain ⟨rfl, rfl, rfl⟩ := hcs
    have hlen : (ss.take len).length = len := by rw [List.length_take, hz]; split <;> omega
    refine ⟨(ss.take len).map (·.data.toList), ?_, ?_⟩
    · have e : ((ss.take len).map (·.data.toList)).map sv = (ss.take len).map Value.string := by
        rw [List.map_map]
        apply List.map_congr_left
        intro a _
        show Value.string (str a.data.toList) = _
        rw [str_of]
      rw [e]
      refine ⟨some x, cap, by rw [List.length_map, hlen], by rw [List.length_map, hlen]; exact hl, hm, by simp, ?_⟩
      intro h0
      rw [List.length_map, hlen] at h0 ⊢
      obtain ⟨b, off, sp⟩ := x
      have hlt : ∀ i, i < len → i < ss.length := fun i hi => by rw [List.length_take] at hlen; omega
      have hs : sp = none := by simpa [Addr.add] using World.cell?_spot (hcell 0 (hlt 0 h0))
      subst hs
      refine ⟨b, off, rfl, ?_, ?_⟩
      · have := World.block_lt_of_cell? W _ (hcell 0 (hlt 0 h0))
        simpa [Addr.add] using this
      · intro i hi
        have h1 := hcell i (hlt i hi)
        rw [Addr.add_lit] at h1
        rw [h1, List.getElem?_map, List.getElem?_take, if_pos hi]
        have := hlt i hi
        simp [List.getD, this]
    · intro y hy
      obtain ⟨z, hz1, rfl⟩ := List.mem_map.1 hy
      rw [el]
      exact hsz z (List.mem_of_mem_take hz1)
theorem open_strs_any {W : World} {base : Nat} {fuel : Nat} {hd : Bool} {v : Value} {y : DataW H × List MemPlace}
    (hf : DataW.trod enc Tryd.prog W base (fun _ => true) hd fuel 22 [v] = some y) : ∃ a n c, v = .slice a n c ∧ ∃ L : List (List UInt8), RdS W v L ∧ SzS L := by
  have hf' := hf
  rcases DataW.trod_slice Tryd.underlying22 hf with ⟨hcs, _⟩ | ⟨x, l, c, elems, rest, n, _, hcs, _⟩
  · simp at hcs
    subst hcs
    exact ⟨_, _, _, rfl, open_strs_at hf'⟩
  · simp at hcs
    subst hcs
    exact ⟨_, _, _, rfl, open_strs_at hf'⟩
theorem want_of {W : World} {base : Nat} {fuel : Nat} {u0 u1 : Value} {hd : Bool} {y : DataW H × List MemPlace}
    (hy : DataW.trod enc Tryd.prog W base (fun _ => true) hd fuel 24 [u0, u1] = some y) :
    ∃ (p : WV) (a : Wt), [u0, u1] = wc p ∧ RdWV W p a ∧ SzW a := by
  obtain ⟨xs, n, _, hx, _, hlen, hg⟩ := DataW.trod_struct Tryd.underlying24 hy
  match xs, hlen with
  | [y0, y1], _ =>
    have h0 := hg 0 _ rfl
    have h1 := hg 1 _ rfl
    simp [strings_cells] at h0 h1
    obtain ⟨a1, n1, c1, e1, L1, r1, z1⟩ := open_strs_any h0
    obtain ⟨a2, n2, c2, e2, L2, r2, z2⟩ := open_strs_any h1
    subst e1 e2
    exact ⟨⟨a1, n1, c1, a2, n2, c2⟩, ⟨L1, L2⟩, rfl, ⟨r1, r2⟩, z1, z2⟩
theorem array2 {α : Type} {cs : Array α} (h : cs.size = 2) : ∃ c0 c1, cs = #[c0, c1] := by
  obtain ⟨l⟩ := cs
  match l, h with
  | [c0, c1], _ => exact ⟨c0, c1, rfl⟩
theorem open_want {W : World} {r : Reach} {base b0 : Nat} {hd : Bool} {v : Value} {d : DataW H} {p : List MemPlace}
    (hval : Value.okWide Tryd.prog W r b0 24 v) (h : DataW.Trod enc Tryd.prog W base (fun _ => true) hd 24 v d p) : ∃ (q : WV) (a : Wt), v = .agg #[.slice q.a1 q.n1 q.c1, .slice q.a2 q.n2 q.c2] ∧ RdWV W q a ∧ SzW a := by
  obtain ⟨cs, rfl, hsz⟩ := okWide_struct Tryd.underlying24 hval
  obtain ⟨c0, c1, rfl⟩ := array2 (hsz.trans want_cells)
  obtain ⟨fuel, hf⟩ := h
  obtain ⟨q, a, hx, h1, h2⟩ := want_of (u0 := c0) (u1 := c1) hf
  refine ⟨q, a, ?_, h1, h2⟩
  simp only [wc, List.cons.injEq, and_true] at hx
  obtain ⟨rfl, rfl⟩ := hx
  rfl
theorem open_wants_at {W : World} {base : Nat} {fuel : Nat} {hd : Bool} {v : Value} {y : DataW H × List MemPlace}
    (hf : DataW.trod enc Tryd.prog W base (fun _ => true) hd fuel 28 [v] = some y) : ∃ (ps : List WV) (L : List Wt), RdL W v ps L ∧ SzL L := by
  rcases DataW.trod_slice Tryd.underlying28 hf with ⟨hcs, _⟩ | ⟨x, l, c, elems, rest, n, _, hcs, _, hb, hl, hm, hlen, hel, _, _⟩
  · simp at hcs
    subst hcs
    exact ⟨[], [], ⟨rdk_nil W, rfl, fun i h => absurd h (Nat.not_lt_zero _)⟩, fun i h => absurd h (Nat.not_lt_zero _)⟩
  · simp at hcs
    subst hcs
    obtain ⟨len, rfl⟩ : ∃ len, len = l := ⟨_, rfl⟩
    obtain ⟨cap, rfl⟩ : ∃ cap, cap = c := ⟨_, rfl⟩
    by_cases h0 : len = 0
    · subst h0
      exact ⟨[], [], ⟨⟨some x, cap, rfl, Nat.zero_le _, hm, by simp, by simp⟩, rfl, fun i h => absurd h (Nat.not_lt_zero _)⟩, fun i h => absurd h (Nat.not_lt_zero _)⟩
    obtain ⟨b, off, sp⟩ := x
    have hs : sp = none := by
      have h1 := hel 0 (by omega)
      rw [List.getElem?_eq_getElem (by omega : 0 < elems.length), Option.bind_eq_some_iff] at h1
      obtain ⟨cs0, q2, _⟩ := h1
      rw [want_cells] at q2
      have q3 := World.cells?_some q2
      have q4 := q3.2.2 0 (by omega)
      have hl0 : 0 < cs0.length := by have := q3.2.1; omega
      rw [List.getElem?_eq_getElem hl0] at q4
      simpa [Addr.add] using World.cell?_spot q4
    subst hs
    have each : ∀ j, j < len → ∃ pa : WV × Wt, (∀ i, i < 2 → W.cell? ⟨b, off + (j * 2 + i), none⟩ = (wc pa.1)[i]?) ∧ RdWV W pa.1 pa.2 ∧ SzW pa.2 := by
      intro j hj
      have h1 := hel j hj
      rw [List.getElem?_eq_getElem (by omega : j < elems.length), Option.bind_eq_some_iff] at h1
      obtain ⟨cs, hc1, hy⟩ := h1
      rw [want_cells] at hc1
      obtain ⟨_, hl5, hcell⟩ := World.cells?_some hc1
      match cs, hl5 with
      | [u0, u1], _ =>
        obtain ⟨q, a, hx, q1, q2⟩ := want_of hy
        refine ⟨(q, a), fun i hi => ?_, q1, q2⟩
        have := hcell i hi
        rw [hx, Addr.add_lit, Addr.add_lit, Nat.add_assoc] at this
        exact this
    have pick : ∃ f : Nat → WV × Wt, ∀ j, j < len → (∀ i, i < 2 → W.cell? ⟨b, off + (j * 2 + i), none⟩ = (wc (f j).1)[i]?) ∧ RdWV W (f j).1 (f j).2 ∧ SzW (f j).2 := by
      refine ⟨fun j => if h : j < len then (each j h).choose else (wv0, wt0), fun j hj => ?_⟩
      simp only [hj, dite_true]
      exact (each j hj).choose_spec
    obtain ⟨f, hf2⟩ := pick
    have hL : ((List.range len).map fun j => (f j).1).length = len := by simp
    have hM : ((List.range len).map fun j => (f j).2).length = len := by simp
    have g1 : ∀ i, i < len → ((List.range len).map fun j => (f j).1).getD i wv0 = (f i).1 := fun i hi => by simp [List.getD, hi]
    have g2 : ∀ i, i < len → ((List.range len).map fun j => (f j).2).getD i wt0 = (f i).2 := fun i hi => by simp [List.getD, hi]
    refine ⟨(List.range len).map fun j => (f j).1, (List.range len).map fun j => (f j).2, ⟨⟨some ⟨b, off, none⟩, cap, by rw [hL], by rw [hL]; exact hl, hm, by simp, ?_⟩, by rw [hL, hM], ?_⟩, ?_⟩
    · rw [hL]
      intro h0
      have c0 := (hf2 0 h0).1 0 (by omega)
      have hb0 : b < W.heap.size := by
        have : W.cell? ⟨b, off + (0 * 2 + 0), none⟩ = some (.slice (f 0).1.a1 (f 0).1.n1 (f 0).1.c1) := c0
        exact World.block_lt_of_cell? W _ this
      refine ⟨b, off, rfl, hb0, fun t ht => ?_⟩
      have hj : t / 2 < len := by omega
      have h1 := (hf2 (t / 2) hj).1 (t % 2) (by omega)
      have e1 : t / 2 * 2 + t % 2 = t := by omega
      have h2 := flat_get wc_len ((List.range len).map fun j => (f j).1) (t / 2) (t % 2) (by rw [hL]; exact hj) (by omega)
      rw [e1] at h1 h2
      rw [h1, h2]
      simp
    · intro i hi
      rw [hM] at hi
      rw [g1 i hi, g2 i hi]
      exact (hf2 i hi).2.1
    · intro i hi
      rw [hM] at hi
      rw [g2 i hi]
      exact (hf2 i hi).2.2
theorem open_wants {W : World} {r : Reach} {base b0 : Nat} {hd : Bool} {v : Value} {d : DataW H} {p : List MemPlace}
    (hval : Value.okWide Tryd.prog W r b0 28 v) (h : DataW.Trod enc Tryd.prog W base (fun _ => true) hd 28 v d p) : ∃ (ps : List WV) (L : List Wt), RdL W v ps L ∧ SzL L := by
  obtain ⟨a, len, cap, rfl⟩ := okWide_slice Tryd.underlying28 hval
  obtain ⟨fuel, hf⟩ := h
  exact open_wants_at (by simpa [Value.cells] using hf)
end
end Go.Proofs.YtjmfiekgpoonjaaDoor
