/- Slots: slots and lists of votes among the arguments. Written by wip/tools/gen29r.py. -/
/- Quorums: what the row's listed variable gives a walk: the library's table. -/
import Derived.Test.YtgmblgpfgdfnaaaDoorQSAC32
import Derived.Lib.SmallJoins
import Derived.ProofKit
import Derived.OpenShut
import Derived.SliceStrings
import Derived.ChangeOld
import Derived.Test.YtgmblgpfgdfnaaaDoorRows
import Derived.Test.YtgmblgpfgdfnaaaDoorQSAC5
import Derived.LaidMore
import Derived.Stop.Joined
namespace Go.Proofs.YtgmblgpfgdfnaaaDoor
open Go.ChangeMaps (open_string)
open Go Go.ChangeShapes Go.WideShapes Go.ChangeAt Go.RowKit Go.Joins
set_option linter.unusedVariables false
set_option linter.unusedSimpArgs false
set_option maxRecDepth 100000
theorem slot_cells : Tryd.prog.cellsOf 24 = 6 := by kernel_rfl
theorem vote_cells29 : Tryd.prog.cellsOf 26 = 3 := by kernel_rfl
theorem votes_cells29 : Tryd.prog.cellsOf 22 = 1 := by kernel_rfl
theorem int_cells29 : Tryd.prog.cellsOf 3 = 1 := by kernel_rfl
theorem bool_cells29 : Tryd.prog.cellsOf 4 = 1 := by kernel_rfl
theorem string_cells29 : Tryd.prog.cellsOf 9 = 1 := by kernel_rfl
theorem array6 {α : Type} {cs : Array α} (h : cs.size = 6) : ∃ c0 c1 c2 c3 c4 c5, cs = #[c0, c1, c2, c3, c4, c5] := by
  obtain ⟨l⟩ := cs
  match l, h with
  | [c0, c1, c2, c3, c4, c5], _ => exact ⟨c0, c1, c2, c3, c4, c5, rfl⟩
theorem str_of29 (a : ByteArray) : str a.data.toList = a := by
  apply ByteArray.ext
  show a.data.toList.toArray = a.data
  simp
section
variable {H : Type} {enc : TypeId × Value → H}
theorem vote_of {W : World} {base : Nat} {sp : Nat → Bool} {fuel : Nat} {u0 u1 u2 : Value} {hd : Bool} {y : DataW H × List MemPlace}
    (hy : DataW.trod enc Tryd.prog W base sp hd fuel 26 [u0, u1, u2] = some y) : ∃ x : Vt, [u0, u1, u2] = vtC x := by
  obtain ⟨xs, n, _, hx, _, hlen, hg⟩ := DataW.trod_struct Tryd.underlying26 hy
  match xs, hlen with
  | [y0, y1, y2], _ =>
    have h0 := hg 0 _ rfl
    have h1 := hg 1 _ rfl
    have h2 := hg 2 _ rfl
    simp [int_cells29] at h0 h1 h2
    obtain ⟨a0, e0, _, w0⟩ := DataW.trod_int Tryd.underlying3 h0
    obtain ⟨a1, e1, _, w1⟩ := DataW.trod_int Tryd.underlying3 h1
    obtain ⟨a2, e2, _, w2⟩ := DataW.trod_int Tryd.underlying3 h2
    simp at e0 e1 e2
    subst e0 e1 e2
    exact ⟨⟨a0, a1, a2⟩, rfl⟩
theorem open_votes_at {W : World} {base : Nat} {fuel : Nat} {hd : Bool} {v : Value} {y : DataW H × List MemPlace}
    (hf : DataW.trod enc Tryd.prog W base (fun _ => true) hd fuel 22 [v] = some y) : ∃ l : List Vt, RdT W v l := by
  rcases DataW.trod_slice Tryd.underlying22 hf with ⟨hcs, _⟩ | ⟨x, l, c, elems, rest, n, _, hcs, _, hb, hl, hm, hlen, hel, _, _⟩
  · simp at hcs
    subst hcs
    exact ⟨[], rdk_nil W⟩
  · simp at hcs
    subst hcs
    obtain ⟨len, rfl⟩ : ∃ len, len = l := ⟨_, rfl⟩
    obtain ⟨cap, rfl⟩ : ∃ cap, cap = c := ⟨_, rfl⟩
    by_cases h0 : len = 0
    · subst h0
      exact ⟨[], ⟨some x, cap, rfl, Nat.zero_le _, hm, by simp, by simp⟩⟩
    obtain ⟨b, off, sp⟩ := x
    have hs : sp = none := by
      have h1 := hel 0 (by omega)
      rw [List.getElem?_eq_getElem (by omega : 0 < elems.length), Option.bind_eq_some_iff] at h1
      obtain ⟨cs0, q2, _⟩ := h1
      rw [vote_cells29] at q2
      have q3 := World.cells?_some q2
      have q4 := q3.2.2 0 (by omega)
      have hl0 : 0 < cs0.length := by have := q3.2.1; omega
      rw [List.getElem?_eq_getElem hl0] at q4
      simpa [Addr.add] using World.cell?_spot q4
    subst hs
    have each : ∀ j, j < len → ∃ it : Vt, ∀ i, i < 3 → W.cell? ⟨b, off + (j * 3 + i), none⟩ = (vtC it)[i]? := by
      intro j hj
      have h1 := hel j hj
      rw [List.getElem?_eq_getElem (by omega : j < elems.length), Option.bind_eq_some_iff] at h1
      obtain ⟨cs, hc1, hy⟩ := h1
      rw [vote_cells29] at hc1
      obtain ⟨_, hl5, hcell⟩ := World.cells?_some hc1
      match cs, hl5 with
      | [u0, u1, u2], _ =>
        obtain ⟨it, hx⟩ := vote_of hy
        refine ⟨it, fun i hi => ?_⟩
        have := hcell i hi
        rw [hx, Addr.add_lit, Addr.add_lit, Nat.add_assoc] at this
        exact this
    have pick : ∃ f : Nat → Vt, ∀ j, j < len → ∀ i, i < 3 → W.cell? ⟨b, off + (j * 3 + i), none⟩ = (vtC (f j))[i]? := by
      refine ⟨fun j => if h : j < len then (each j h).choose else ⟨0, 0, 0⟩, fun j hj => ?_⟩
      simp only [hj, dite_true]
      exact (each j hj).choose_spec
    obtain ⟨f, hf2⟩ := pick
    have hL : ((List.range len).map f).length = len := by simp
    refine ⟨(List.range len).map f, ⟨some ⟨b, off, none⟩, cap, by rw [hL], by rw [hL]; exact hl, hm, by simp, ?_⟩⟩
    rw [hL]
    intro h0
    have c0 := hf2 0 h0 0 (by omega)
    have hb0 : b < W.heap.size := by
      have : W.cell? ⟨b, off + (0 * 3 + 0), none⟩ = some (.int .i64 (f 0).fr) := c0
      exact World.block_lt_of_cell? W _ this
    refine ⟨b, off, rfl, hb0, fun t ht => ?_⟩
    have hj : t / 3 < len := by omega
    have h1 := hf2 (t / 3) hj (t % 3) (by omega)
    have e1 : t / 3 * 3 + t % 3 = t := by omega
    have h2 := flat_get vtC_len ((List.range len).map f) (t / 3) (t % 3) (by rw [hL]; exact hj) (by omega)
    rw [e1] at h1 h2
    rw [h1, h2]
    simp
theorem open_votes {W : World} {r : Reach} {base b0 : Nat} {hd : Bool} {v : Value} {d : DataW H} {p : List MemPlace}
    (hval : Value.okWide Tryd.prog W r b0 22 v) (h : DataW.Trod enc Tryd.prog W base (fun _ => true) hd 22 v d p) : ∃ l : List Vt, RdT W v l := by
  obtain ⟨a, len, cap, rfl⟩ := okWide_slice Tryd.underlying22 hval
  obtain ⟨fuel, hf⟩ := h
  exact open_votes_at (by simpa [Value.cells] using hf)
theorem slot_of {W : World} {base : Nat} {fuel : Nat} {u0 u1 u2 u3 u4 u5 : Value} {hd : Bool} {y : DataW H × List MemPlace}
    (hy : DataW.trod enc Tryd.prog W base (fun _ => true) hd fuel 24 [u0, u1, u2, u3, u4, u5] = some y) :
    ∃ s : Sl, u0 = .bool s.has ∧ u1 = .int .i64 s.vw ∧ u2 = .int .i64 s.tm ∧ u3 = .string (str s.body) ∧ RdS W s u4 u5 := by
  obtain ⟨xs, n, _, hx, _, hlen, hg⟩ := DataW.trod_struct Tryd.underlying24 hy
  match xs, hlen with
  | [y0, y1, y2, y3, y4, y5], _ =>
    have h0 := hg 0 _ rfl
    have h1 := hg 1 _ rfl
    have h2 := hg 2 _ rfl
    have h3 := hg 3 _ rfl
    have h4 := hg 4 _ rfl
    have h5 := hg 5 _ rfl
    simp [int_cells29, bool_cells29, string_cells29, votes_cells29] at h0 h1 h2 h3 h4 h5
    obtain ⟨a0, e0, _⟩ := DataW.trod_bool Tryd.underlying4 h0
    obtain ⟨a1, e1, _, w1⟩ := DataW.trod_int Tryd.underlying3 h1
    obtain ⟨a2, e2, _, w2⟩ := DataW.trod_int Tryd.underlying3 h2
    obtain ⟨a3, e3, _, w3⟩ := DataW.trod_string Tryd.underlying9 h3
    obtain ⟨l4, r4⟩ := open_votes_at h4
    obtain ⟨l5, r5⟩ := open_votes_at h5
    simp at e0 e1 e2 e3
    subst e0 e1 e2 e3
    exact ⟨⟨a0, a1, a2, a3.data.toList, l4, l5⟩, rfl, rfl, rfl, by rw [str_of29], r4, r5, by show a3.data.toList.length ≤ maxLen; rw [Array.length_toList]; exact w3⟩
theorem open_slot {W : World} {r : Reach} {base b0 : Nat} {hd : Bool} {v : Value} {d : DataW H} {p : List MemPlace}
    (hval : Value.okWide Tryd.prog W r b0 24 v) (h : DataW.Trod enc Tryd.prog W base (fun _ => true) hd 24 v d p) : ∃ (s : Sl) (vP vC : Value), v = sV s vP vC ∧ RdS W s vP vC := by
  obtain ⟨cs, rfl, hsz⟩ := okWide_struct Tryd.underlying24 hval
  obtain ⟨c0, c1, c2, c3, c4, c5, rfl⟩ := array6 (hsz.trans slot_cells)
  obtain ⟨fuel, hf⟩ := h
  obtain ⟨s, h0, h1, h2, h3, h4⟩ := slot_of (u0 := c0) (u1 := c1) (u2 := c2) (u3 := c3) (u4 := c4) (u5 := c5) hf
  subst h0 h1 h2 h3
  exact ⟨s, c4, c5, rfl, h4⟩
end
/-- The law SlotAgree, as its row has it. -/
theorem agree_row (s0 : Sl) (vP0 vC0 : Value) (s1 : Sl) (vP1 vC1 : Value) (n : Int) (w : World) (h0 : RdS w s0 vP0 vC0) (h1 : RdS w s1 vP1 vC1) (hn : (Lit.int .i64 n).wf = true) (hT : TabAt w) :
    Calls Tryd.prog 5 #[sV s0 vP0 vC0, sV s1 vP1 vC1, .int .i64 n] w fun e w' => e = .returned (.bool true) ∧ Below w.heap.size w w' :=
  agree_walk s0 s1 _ _ _ _ _ _ _ _ _ _ _ _ vP0 vC0 vP1 vC1 n w h0 h1 (by simp [Lit.wf, IntKind.min, IntKind.max, IntKind.signed, IntKind.bits] at hn; omega) hT rfl rfl
end Go.Proofs.YtgmblgpfgdfnaaaDoor
namespace Go.Proofs.YtgmblgpfgdfnaaaDoor
open Go Go.ChangeShapes Go.WideShapes Go.ChangeAt Go.RowKit
set_option linter.unusedVariables false
def laid1 : List (String × DataW Unit) := [("math/bits.deBruijn64tab", Rows.laid_math_bits_deBruijn64tab)]
theorem gTab : Tryd.prog.globalNamed "math/bits.deBruijn64tab" = some 0 := by kernel_rfl
theorem tTab : (Tryd.prog.globals[0]?).map (·.type) = some 89 := by kernel_rfl
theorem cU8 : Tryd.prog.cellsOf 5 = 1 := by kernel_rfl
theorem cTab : Tryd.prog.cellsOf 89 = 64 := by kernel_rfl
theorem laid_tab {H : Type} : (Rows.laid_math_bits_deBruijn64tab : DataW H) = .agg (tabN.map fun n => .lit (.int .u8 (n : Nat))) := rfl
theorem tab_of_laid {W : World} (h : laidMetH Tryd.prog laid1 W) : TabAt W := by
  rw [MakeChecks.laidMetH_plain _ _ _ (by kernel_rfl)] at h
  obtain ⟨ps, ⟨g0, t0, cs0, f0, p0, q0, hg0, ht0, hv0, hd0, _, _⟩, _, _⟩ := h
  obtain rfl := Option.some.inj (gTab.symm.trans hg0)
  obtain rfl := Option.some.inj (tTab.symm.trans ht0)
  obtain ⟨xs, m1, rfl, hx1, hlen, hn, hel⟩ := DataW.trod_array Tryd.underlying89 hd0
  simp only [Prod.mk.injEq] at hx1
  have hx := hx1.1
  rw [laid_tab] at hx
  simp only [DataW.agg.injEq] at hx
  rw [cTab] at hlen
  have cell : ∀ i, i < 64 → W.cell? ⟨0, i, none⟩ = some (.int .u8 (tabN.getD i 0 : Nat)) := by
    intro i hi
    have h1 := hel i hi
    rw [cU8, Nat.mul_one] at h1
    obtain ⟨x, hxi⟩ : ∃ x, xs[i]? = some x := ⟨xs[i]'(by omega), by simp [hn, hi]⟩
    rw [hxi] at h1
    obtain ⟨k, e1, e2, _⟩ := DataW.trod_int Tryd.underlying5 h1
    have h3 : (xs.map (·.1))[i]? = some (.lit (.int .u8 k)) := by rw [List.getElem?_map, hxi, e2]; rfl
    rw [← hx, List.getElem?_map] at h3
    have h4 : tabN[i]? = some (tabN.getD i 0) := by
      have : i < tabN.length := hi
      simp [this]
    rw [h4] at h3
    simp at h3
    have h5 := World.var?_cell hg0 hv0 i
    have h6 : cs0[i]? = some (.int .u8 k) := by
      have : (cs0.toList.drop i)[0]? = some (.int .u8 k) := by
        have := congrArg (fun l => l[0]?) e1
        simpa [List.getElem?_take] using this
      simpa using this
    rw [h5, h6]
    simp [h3]
  refine ⟨?_, cell⟩
  have := World.block_lt_of_cell? W _ (cell 0 (by decide))
  simpa using this
end Go.Proofs.YtgmblgpfgdfnaaaDoor
