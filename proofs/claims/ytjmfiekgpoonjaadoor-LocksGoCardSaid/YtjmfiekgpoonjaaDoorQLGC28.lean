/- Locks: the two sides' answers are one; acts among the arguments. Written by wip/tools/gen24e.py. -/
import Derived.Test.YtjmfiekgpoonjaaDoorQLGC27
import Derived.Lib.SmallJoins
import Derived.ProofKit
import Derived.OpenShut
import Derived.SliceStrings
import Derived.ChangeOld
namespace Go.Proofs.YtjmfiekgpoonjaaDoor
open Go Go.ChangeShapes Go.WideShapes Go.ChangeAt Go.RowKit Go.Joins
set_option linter.unusedVariables false
set_option linter.unusedSimpArgs false
/-- How far all may be: at most done; who does not wait has all ahead of it done. -/
def Fair (L : List Wt) (at' : List Nat) : Prop := (∀ i, at'.getD i 0 ≤ 2) ∧ ∀ i, at'.getD i 0 ≠ 0 → ∀ j ∈ ahN L i i, at'.getD j 0 = 2
theorem getD_set (l : List Nat) (i j x : Nat) : (l.set i x).getD j 0 = if i = j ∧ j < l.length then x else l.getD j 0 := by
  by_cases h : i = j
  · subst h
    by_cases h2 : i < l.length
    · rw [if_pos ⟨rfl, h2⟩]; simp [List.getD, h2]
    · rw [if_neg (by omega)]; simp [List.getD, h2]
  · rw [if_neg (by omega)]; simp [List.getD, List.getElem?_set, h]
theorem fair_zero (L : List Wt) (N : Nat) : Fair L (List.replicate N 0) := by
  have h : ∀ i, (List.replicate N 0).getD i 0 = 0 := fun i => by
    simp only [List.getD, List.getElem?_replicate]; split <;> rfl
  exact ⟨fun i => by rw [h i]; omega, fun i hi => absurd (h i) hi⟩
theorem clN_comm (L : List Wt) (i j : Nat) : clN L i j = clN L j i := clB_comm _ _
theorem fair_open {L : List Wt} {at' : List Nat} (h : Fair L at') {i : Nat} (hi : at'.getD i 0 ≠ 0) : opL L at' i = [] := by
  unfold opL
  rw [List.filter_eq_nil_iff]
  intro j hj
  rw [h.2 i hi j hj]
  decide
theorem fair_rw {L : List Wt} {at' : List Nat} (h : Fair L at') (i : Nat) : rwL L at' i = opL L at' i := by
  unfold rwL
  by_cases h0 : at'.getD i 0 = 0
  · rw [if_pos h0]
    unfold opL ahN
    rw [List.filter_filter]
    refine List.filter_congr fun k _ => ?_
    rw [clN_comm L i k]
    congr 1
    have h2 := h.1 k
    rw [Bool.eq_iff_iff, decide_eq_true_iff, bne_iff_ne]
    omega
  · rw [if_neg h0, fair_open h h0]
theorem fair_rm {L : List Wt} {at' : List Nat} (h : Fair L at') (i : Nat) : rmB L at' i = (at'.getD i 0 == 0 && (opL L at' i).length == 0) := by
  unfold rmB
  rw [fair_rw h]
theorem fair_code {L : List Wt} {at' : List Nat} (h : Fair L at') (i : Nat) : rbC L at' i = bgC L at' i := by
  unfold rbC bgC
  rw [fair_rm h]
  by_cases h0 : at'.getD i 0 = 0
  · rw [if_neg (show ¬ (at'.getD i 0 ≠ 0) from fun q => q h0), if_neg (show ¬ (at'.getD i 0 ≠ 0) from fun q => q h0), h0]
    by_cases h1 : (opL L at' i).length = 0
    · rw [h1]; rfl
    · rw [if_pos h1, if_pos (by rw [show ((0 : Nat) == 0) = true from rfl, Bool.true_and, beq_eq_false_iff_ne]; exact h1)]
  · rw [if_pos h0, if_pos h0]
theorem fair_at {L : List Wt} {at' : List Nat} (h : Fair L at') (i : Nat) : rbA L at' i = bgA L at' i := by unfold rbA bgA; rw [fair_code h]
theorem fair_begin {L : List Wt} {at' : List Nat} (h : Fair L at') (i : Nat) : Fair L (bgA L at' i) := by
  unfold bgA
  by_cases hc : bgC L at' i = 0
  · rw [if_pos hc]
    unfold bgC at hc
    by_cases h0 : at'.getD i 0 = 0
    · rw [if_neg (by omega)] at hc
      by_cases h1 : (opL L at' i).length = 0
      · have hop : ∀ j ∈ ahN L i i, at'.getD j 0 = 2 := by
          have h2 := List.eq_nil_of_length_eq_zero h1
          unfold opL at h2
          rw [List.filter_eq_nil_iff] at h2
          intro j hj
          have h3 := h2 j hj
          simpa using h3
        refine ⟨fun k => ?_, fun k hk j hj => ?_⟩
        · rw [getD_set]; have := h.1 k; split <;> omega
        · have hji := ahN_lt hj
          rw [getD_set] at hk ⊢
          by_cases hik : i = k
          · subst hik
            rw [if_neg (by omega)]
            exact hop j hj
          · rw [if_neg (by omega)] at hk
            have h2 := h.2 k hk j hj
            by_cases hij : i = j
            · subst hij; omega
            · rw [if_neg (by omega)]; exact h2
      · rw [if_pos h1] at hc; omega
    · rw [if_pos h0] at hc; omega
  · rw [if_neg hc]; exact h
theorem fair_end {L : List Wt} {at' : List Nat} (h : Fair L at') (i : Nat) : Fair L (enA at' i) := by
  unfold enA
  by_cases hc : enC at' i = 0
  · rw [if_pos hc]
    have h0 : at'.getD i 0 ≠ 0 := by
      intro h0
      unfold enC at hc
      rw [if_pos h0] at hc
      omega
    refine ⟨fun k => ?_, fun k hk j hj => ?_⟩
    · rw [getD_set]; have := h.1 k; split <;> omega
    · have hk0 : at'.getD k 0 ≠ 0 := by
        rw [getD_set] at hk
        by_cases hik : i = k
        · subst hik; exact h0
        · rwa [if_neg (by omega)] at hk
      rw [getD_set]
      split
      · rfl
      · exact h.2 k hk0 j hj
  · rw [if_neg hc]; exact h
theorem left_sum (at' : List Nat) (l : List Nat) : (l.filter fun i => at'.getD i 0 != 2).length + (l.filter fun i => at'.getD i 0 == 2).length = l.length := by
  induction l with
  | nil => rfl
  | cons x r ih =>
    simp only [List.filter_cons, bne]
    cases h : (at'.getD x 0 == 2) <;> simp only [Bool.not_true, Bool.not_false, if_true, if_false, List.length_cons, Bool.false_eq_true, bne] at ih ⊢ <;> omega
theorem bgA_len (L : List Wt) (at' : List Nat) (i : Nat) : (bgA L at' i).length = at'.length := by unfold bgA; split <;> simp
theorem enA_len (at' : List Nat) (i : Nat) : (enA at' i).length = at'.length := by unfold enA; split <;> simp
/-- Acts: whether it is an end, and of which. -/
def RdAc (w : World) (v : Value) (n : Nat) : Prop := ∃ ao cap, v = .slice ao n cap ∧ n ≤ cap ∧ cap ≤ 9223372036854775807 ∧ Hid (∀ j, j < n → ∃ (b off : Nat) (d : Bool) (k : Int), ao = some ⟨b, off, none⟩ ∧ b < w.heap.size ∧ w.cell? ⟨b, off + j * 2, none⟩ = some (.bool d) ∧ w.cell? ⟨b, off + (j * 2 + 1), none⟩ = some (.int .i64 k))
theorem act_cells : Tryd.prog.cellsOf 46 = 2 := by kernel_rfl
theorem bool_cells : Tryd.prog.cellsOf 4 = 1 := by kernel_rfl
theorem int_cells : Tryd.prog.cellsOf 3 = 1 := by kernel_rfl
section
variable {H : Type} {enc : TypeId × Value → H}
theorem open_acts24 {W : World} {r : Reach} {base b0 : Nat} {hd : Bool} {v : Value} {d : DataW H} {p : List MemPlace}
    (hval : Value.okWide Tryd.prog W r b0 41 v) (h : DataW.Trod enc Tryd.prog W base (fun _ => true) hd 41 v d p) : ∃ n, RdAc W v n := by
  obtain ⟨a, len, cap, rfl⟩ := okWide_slice Tryd.underlying41 hval
  obtain ⟨fuel, hf⟩ := h
  rcases DataW.trod_slice Tryd.underlying41 hf with ⟨hcs, _⟩ | ⟨x, l, c, elems, rest, n, _, hcs, _, hb, hl, hm, hlen, hel, _, _⟩
  · simp [Value.cells] at hcs
    obtain ⟨rfl, rfl, rfl⟩ := hcs
    exact ⟨0, none, 0, rfl, by omega, by omega, Lib.hid fun j hj => absurd hj (by omega)⟩
  · simp [Value.cells] at hcs
    obtain ⟨rfl, rfl, rfl⟩ := hcs
    refine ⟨len, _, cap, rfl, hl, by unfold maxLen at hm; omega, Lib.hid fun j hj => ?_⟩
    have hall : ∀ j, j < len → ∃ cs, W.cells? base (x.add (j * 2)) 2 = some cs := by
      intro j hj
      have q1 := hel j hj
      rw [List.getElem?_eq_getElem (by omega : j < elems.length), Option.bind_eq_some_iff] at q1
      obtain ⟨cs0, q2, _⟩ := q1
      rw [act_cells] at q2
      exact ⟨cs0, q2⟩
    have h1 := hel j hj
    rw [List.getElem?_eq_getElem (by omega : j < elems.length), Option.bind_eq_some_iff] at h1
    obtain ⟨cs, hc1, hy⟩ := h1
    rw [act_cells] at hc1
    have hcell := (World.cells?_some hc1).2.2
    obtain ⟨xs, m, _, hx, hcl2, hxl, hg⟩ := DataW.trod_struct Tryd.underlying46 hy
    rw [act_cells] at hcl2
    match cs, hcl2, xs, hxl with
    | [u0, u1], _, [y0, y1], _ =>
      have g0 := hg 0 _ rfl
      have g1 := hg 1 _ rfl
      simp [int_cells, bool_cells] at g0 g1
      obtain ⟨n0, e0, _⟩ := DataW.trod_bool Tryd.underlying4 g0
      obtain ⟨n1, e1, _, w1⟩ := DataW.trod_int Tryd.underlying3 g1
      simp at e0 e1
      subst e0 e1
      have k0 := hcell 0 (by omega)
      have k1 := hcell 1 (by omega)
      obtain ⟨b, off, s⟩ := x
      have hs : s = none := by
        obtain ⟨cs0, q2⟩ := hall 0 (by omega)
        have q3 := World.cells?_some q2
        have q4 := q3.2.2 0 (by omega)
        have hl0 : 0 < cs0.length := by have := q3.2.1; omega
        rw [List.getElem?_eq_getElem hl0] at q4
        simpa [Addr.add] using World.cell?_spot q4
      subst hs
      rw [Addr.add_lit, Addr.add_lit] at k0 k1
      simp only [Nat.add_zero, List.getElem?_cons_zero, List.getElem?_cons_succ] at k0 k1
      have := World.block_lt_of_cell? W _ k0
      exact ⟨b, off, n0, n1, rfl, by simpa using this, by simpa using k0, by rw [← Nat.add_assoc]; simpa using k1⟩
end
end Go.Proofs.YtjmfiekgpoonjaaDoor
