/- Slots: slots and lists of votes among the arguments. Written by wip/tools/gen29o.py. -/
/- A region whose order is open, each order walked as it is: nothing is asked of the world. -/
import Derived.Test.YtgmblgpfgdfnaaaDoorQSPC13
import Derived.Lib.SmallJoins
import Derived.ProofKit
import Derived.OpenShut
import Derived.SliceStrings
import Derived.ChangeOld
import Derived.Test.YtgmblgpfgdfnaaaDoorQSPC17
namespace Go.Proofs.YtgmblgpfgdfnaaaDoor
open Go.ChangeMaps (open_string)
open Go Go.ChangeShapes Go.WideShapes Go.ChangeAt Go.RowKit Go.Joins
set_option linter.unusedVariables false
set_option linter.unusedSimpArgs false
set_option maxRecDepth 100000
theorem slot_cells : Tryd.prog.cellsOf 24 = 6 := by kernel_rfl
theorem vote_cells29 : Tryd.prog.cellsOf 26 = 3 := by kernel_rfl
theorem votes_cells29 : Tryd.prog.cellsOf 22 = 1 := by kernel_rfl
theorem int_cells29 : Tryd.prog.cellsOf 3 = 1 := by kernel_rfl
theorem bool_cells29 : Tryd.prog.cellsOf 4 = 1 := by kernel_rfl
theorem string_cells29 : Tryd.prog.cellsOf 9 = 1 := by kernel_rfl
theorem array6 {α : Type} {cs : Array α} (h : cs.size = 6) : ∃ c0 c1 c2 c3 c4 c5, cs = #[c0, c1, c2, c3, c4, c5] := by
  obtain ⟨l⟩ := cs
  match l, h with
  | [c0, c1, c2, c3, c4, c5], _ => exact ⟨c0, c1, c2, c3, c4, c5, rfl⟩
theorem str_of29 (a : ByteArray) : str a.data.toList = a := by
  apply ByteArray.ext
  show a.data.toList.toArray = a.data
  simp
/-- A vote with its kind. -/
structure Sd where
  com : Bool
  v : Vt
def sdC (x : Sd) : List Value := [.bool x.com, .int .i64 x.v.fr, .int .i64 x.v.vw, .int .i64 x.v.tm]
theorem sdC_len (x : Sd) : (sdC x).length = 4 := rfl
theorem said_cells29 : Tryd.prog.cellsOf 42 = 4 := by kernel_rfl
section
variable {H : Type} {enc : TypeId × Value → H}
theorem vote_of {W : World} {base : Nat} {sp : Nat → Bool} {fuel : Nat} {u0 u1 u2 : Value} {hd : Bool} {y : DataW H × List MemPlace}
    (hy : DataW.trod enc Tryd.prog W base sp hd fuel 26 [u0, u1, u2] = some y) : ∃ x : Vt, [u0, u1, u2] = vtC x := by
  obtain ⟨xs, n, _, hx, _, hlen, hg⟩ := DataW.trod_struct Tryd.underlying26 hy
  match xs, hlen with
  | [y0, y1, y2], _ =>
    have h0 := hg 0 _ rfl
    have h1 := hg 1 _ rfl
    have h2 := hg 2 _ rfl
    simp [int_cells29] at h0 h1 h2
    obtain ⟨a0, e0, _, w0⟩ := DataW.trod_int Tryd.underlying3 h0
    obtain ⟨a1, e1, _, w1⟩ := DataW.trod_int Tryd.underlying3 h1
    obtain ⟨a2, e2, _, w2⟩ := DataW.trod_int Tryd.underlying3 h2
    simp at e0 e1 e2
    subst e0 e1 e2
    exact ⟨⟨a0, a1, a2⟩, rfl⟩
theorem open_votes_at {W : World} {base : Nat} {fuel : Nat} {hd : Bool} {v : Value} {y : DataW H × List MemPlace}
    (hf : DataW.trod enc Tryd.prog W base (fun _ => true) hd fuel 22 [v] = some y) : ∃ l : List Vt, RdT W v l := by
  rcases DataW.trod_slice Tryd.underlying22 hf with ⟨hcs, _⟩ | ⟨x, l, c, elems, rest, n, _, hcs, _, hb, hl, hm, hlen, hel, _, _⟩
  · simp at hcs
    subst hcs
    exact ⟨[], rdk_nil W⟩
  · simp at hcs
    subst hcs
    obtain ⟨len, rfl⟩ : ∃ len, len = l := ⟨_, rfl⟩
    obtain ⟨cap, rfl⟩ : ∃ cap, cap = c := ⟨_, rfl⟩
    by_cases h0 : len = 0
    · subst h0
      exact ⟨[], ⟨some x, cap, rfl, Nat.zero_le _, hm, by simp, by simp⟩⟩
    obtain ⟨b, off, sp⟩ := x
    have hs : sp = none := by
      have h1 := hel 0 (by omega)
      rw [List.getElem?_eq_getElem (by omega : 0 < elems.length), Option.bind_eq_some_iff] at h1
      obtain ⟨cs0, q2, _⟩ := h1
      rw [vote_cells29] at q2
      have q3 := World.cells?_some q2
      have q4 := q3.2.2 0 (by omega)
      have hl0 : 0 < cs0.length := by have := q3.2.1; omega
      rw [List.getElem?_eq_getElem hl0] at q4
      simpa [Addr.add] using World.cell?_spot q4
    subst hs
    have each : ∀ j, j < len → ∃ it : Vt, ∀ i, i < 3 → W.cell? ⟨b, off + (j * 3 + i), none⟩ = (vtC it)[i]? := by
      intro j hj
      have h1 := hel j hj
      rw [List.getElem?_eq_getElem (by omega : j < elems.length), Option.bind_eq_some_iff] at h1
      obtain ⟨cs, hc1, hy⟩ := h1
      rw [vote_cells29] at hc1
      obtain ⟨_, hl5, hcell⟩ := World.cells?_some hc1
      match cs, hl5 with
      | [u0, u1, u2], _ =>
        obtain ⟨it, hx⟩ := vote_of hy
        refine ⟨it, fun i hi => ?_⟩
        have := hcell i hi
        rw [hx, Addr.add_lit, Addr.add_lit, Nat.add_assoc] at this
        exact this
    have pick : ∃ f : Nat → Vt, ∀ j, j < len → ∀ i, i < 3 → W.cell? ⟨b, off + (j * 3 + i), none⟩ = (vtC (f j))[i]? := by
      refine ⟨fun j => if h : j < len then (each j h).choose else ⟨0, 0, 0⟩, fun j hj => ?_⟩
      simp only [hj, dite_true]
      exact (each j hj).choose_spec
    obtain ⟨f, hf2⟩ := pick
    have hL : ((List.range len).map f).length = len := by simp
    refine ⟨(List.range len).map f, ⟨some ⟨b, off, none⟩, cap, by rw [hL], by rw [hL]; exact hl, hm, by simp, ?_⟩⟩
    rw [hL]
    intro h0
    have c0 := hf2 0 h0 0 (by omega)
    have hb0 : b < W.heap.size := by
      have : W.cell? ⟨b, off + (0 * 3 + 0), none⟩ = some (.int .i64 (f 0).fr) := c0
      exact World.block_lt_of_cell? W _ this
    refine ⟨b, off, rfl, hb0, fun t ht => ?_⟩
    have hj : t / 3 < len := by omega
    have h1 := hf2 (t / 3) hj (t % 3) (by omega)
    have e1 : t / 3 * 3 + t % 3 = t := by omega
    have h2 := flat_get vtC_len ((List.range len).map f) (t / 3) (t % 3) (by rw [hL]; exact hj) (by omega)
    rw [e1] at h1 h2
    rw [h1, h2]
    simp
theorem open_votes {W : World} {r : Reach} {base b0 : Nat} {hd : Bool} {v : Value} {d : DataW H} {p : List MemPlace}
    (hval : Value.okWide Tryd.prog W r b0 22 v) (h : DataW.Trod enc Tryd.prog W base (fun _ => true) hd 22 v d p) : ∃ l : List Vt, RdT W v l := by
  obtain ⟨a, len, cap, rfl⟩ := okWide_slice Tryd.underlying22 hval
  obtain ⟨fuel, hf⟩ := h
  exact open_votes_at (by simpa [Value.cells] using hf)
theorem slot_of {W : World} {base : Nat} {fuel : Nat} {u0 u1 u2 u3 u4 u5 : Value} {hd : Bool} {y : DataW H × List MemPlace}
    (hy : DataW.trod enc Tryd.prog W base (fun _ => true) hd fuel 24 [u0, u1, u2, u3, u4, u5] = some y) :
    ∃ s : Sl, u0 = .bool s.has ∧ u1 = .int .i64 s.vw ∧ u2 = .int .i64 s.tm ∧ u3 = .string (str s.body) ∧ RdS W s u4 u5 := by
  obtain ⟨xs, n, _, hx, _, hlen, hg⟩ := DataW.trod_struct Tryd.underlying24 hy
  match xs, hlen with
  | [y0, y1, y2, y3, y4, y5], _ =>
    have h0 := hg 0 _ rfl
    have h1 := hg 1 _ rfl
    have h2 := hg 2 _ rfl
    have h3 := hg 3 _ rfl
    have h4 := hg 4 _ rfl
    have h5 := hg 5 _ rfl
    simp [int_cells29, bool_cells29, string_cells29, votes_cells29] at h0 h1 h2 h3 h4 h5
    obtain ⟨a0, e0, _⟩ := DataW.trod_bool Tryd.underlying4 h0
    obtain ⟨a1, e1, _, w1⟩ := DataW.trod_int Tryd.underlying3 h1
    obtain ⟨a2, e2, _, w2⟩ := DataW.trod_int Tryd.underlying3 h2
    obtain ⟨a3, e3, _, w3⟩ := DataW.trod_string Tryd.underlying9 h3
    obtain ⟨l4, r4⟩ := open_votes_at h4
    obtain ⟨l5, r5⟩ := open_votes_at h5
    simp at e0 e1 e2 e3
    subst e0 e1 e2 e3
    exact ⟨⟨a0, a1, a2, a3.data.toList, l4, l5⟩, rfl, rfl, rfl, by rw [str_of29], r4, r5, by show a3.data.toList.length ≤ maxLen; rw [Array.length_toList]; exact w3⟩
theorem open_slot {W : World} {r : Reach} {base b0 : Nat} {hd : Bool} {v : Value} {d : DataW H} {p : List MemPlace}
    (hval : Value.okWide Tryd.prog W r b0 24 v) (h : DataW.Trod enc Tryd.prog W base (fun _ => true) hd 24 v d p) : ∃ (s : Sl) (vP vC : Value), v = sV s vP vC ∧ RdS W s vP vC := by
  obtain ⟨cs, rfl, hsz⟩ := okWide_struct Tryd.underlying24 hval
  obtain ⟨c0, c1, c2, c3, c4, c5, rfl⟩ := array6 (hsz.trans slot_cells)
  obtain ⟨fuel, hf⟩ := h
  obtain ⟨s, h0, h1, h2, h3, h4⟩ := slot_of (u0 := c0) (u1 := c1) (u2 := c2) (u3 := c3) (u4 := c4) (u5 := c5) hf
  subst h0 h1 h2 h3
  exact ⟨s, c4, c5, rfl, h4⟩
theorem open_vote {W : World} {r : Reach} {base b0 : Nat} {hd : Bool} {v : Value} {d : DataW H} {p : List MemPlace}
    (hval : Value.okWide Tryd.prog W r b0 26 v) (h : DataW.Trod enc Tryd.prog W base (fun _ => true) hd 26 v d p) : ∃ x : Vt, v = vtV x := by
  obtain ⟨cs, rfl, hsz⟩ := okWide_struct Tryd.underlying26 hval
  have hsz := hsz.trans vote_cells29
  obtain ⟨l⟩ := cs
  match l, hsz with
  | [c0, c1, c2], _ =>
    obtain ⟨fuel, hf⟩ := h
    obtain ⟨x, hx⟩ := vote_of (u0 := c0) (u1 := c1) (u2 := c2) hf
    unfold vtC at hx
    injection hx with e0 hx
    injection hx with e1 hx
    injection hx with e2 _
    subst e0 e1 e2
    exact ⟨x, rfl⟩
theorem said_of {W : World} {base : Nat} {fuel : Nat} {u0 u1 u2 u3 : Value} {hd : Bool} {y : DataW H × List MemPlace}
    (hy : DataW.trod enc Tryd.prog W base (fun _ => true) hd fuel 42 [u0, u1, u2, u3] = some y) : ∃ x : Sd, [u0, u1, u2, u3] = sdC x := by
  obtain ⟨xs, n, _, hx, _, hlen, hg⟩ := DataW.trod_struct Tryd.underlying42 hy
  match xs, hlen with
  | [y0, y1], _ =>
    have h0 := hg 0 _ rfl
    have h1 := hg 1 _ rfl
    simp [bool_cells29, vote_cells29] at h0 h1
    obtain ⟨a0, e0, _⟩ := DataW.trod_bool Tryd.underlying4 h0
    obtain ⟨x, hx⟩ := vote_of h1
    simp at e0
    subst e0
    refine ⟨⟨a0, x⟩, ?_⟩
    show _ = Value.bool a0 :: vtC x
    rw [← hx]
theorem open_saids_at {W : World} {base : Nat} {fuel : Nat} {hd : Bool} {v : Value} {y : DataW H × List MemPlace}
    (hf : DataW.trod enc Tryd.prog W base (fun _ => true) hd fuel 40 [v] = some y) : ∃ l : List Sd, RdK 4 sdC W v l := by
  rcases DataW.trod_slice Tryd.underlying40 hf with ⟨hcs, _⟩ | ⟨x, l, c, elems, rest, n, _, hcs, _, hb, hl, hm, hlen, hel, _, _⟩
  · simp at hcs
    subst hcs
    exact ⟨[], rdk_nil W⟩
  · simp at hcs
    subst hcs
    obtain ⟨len, rfl⟩ : ∃ len, len = l := ⟨_, rfl⟩
    obtain ⟨cap, rfl⟩ : ∃ cap, cap = c := ⟨_, rfl⟩
    by_cases h0 : len = 0
    · subst h0
      exact ⟨[], ⟨some x, cap, rfl, Nat.zero_le _, hm, by simp, by simp⟩⟩
    obtain ⟨b, off, sp⟩ := x
    have hs : sp = none := by
      have h1 := hel 0 (by omega)
      rw [List.getElem?_eq_getElem (by omega : 0 < elems.length), Option.bind_eq_some_iff] at h1
      obtain ⟨cs0, q2, _⟩ := h1
      rw [said_cells29] at q2
      have q3 := World.cells?_some q2
      have q4 := q3.2.2 0 (by omega)
      have hl0 : 0 < cs0.length := by have := q3.2.1; omega
      rw [List.getElem?_eq_getElem hl0] at q4
      simpa [Addr.add] using World.cell?_spot q4
    subst hs
    have each : ∀ j, j < len → ∃ it : Sd, ∀ i, i < 4 → W.cell? ⟨b, off + (j * 4 + i), none⟩ = (sdC it)[i]? := by
      intro j hj
      have h1 := hel j hj
      rw [List.getElem?_eq_getElem (by omega : j < elems.length), Option.bind_eq_some_iff] at h1
      obtain ⟨cs, hc1, hy⟩ := h1
      rw [said_cells29] at hc1
      obtain ⟨_, hl5, hcell⟩ := World.cells?_some hc1
      match cs, hl5 with
      | [u0, u1, u2, u3], _ =>
        obtain ⟨it, hx⟩ := said_of hy
        refine ⟨it, fun i hi => ?_⟩
        have := hcell i hi
        rw [hx, Addr.add_lit, Addr.add_lit, Nat.add_assoc] at this
        exact this
    have pick : ∃ f : Nat → Sd, ∀ j, j < len → ∀ i, i < 4 → W.cell? ⟨b, off + (j * 4 + i), none⟩ = (sdC (f j))[i]? := by
      refine ⟨fun j => if h : j < len then (each j h).choose else ⟨false, ⟨0, 0, 0⟩⟩, fun j hj => ?_⟩
      simp only [hj, dite_true]
      exact (each j hj).choose_spec
    obtain ⟨f, hf2⟩ := pick
    have hL : ((List.range len).map f).length = len := by simp
    refine ⟨(List.range len).map f, ⟨some ⟨b, off, none⟩, cap, by rw [hL], by rw [hL]; exact hl, hm, by simp, ?_⟩⟩
    rw [hL]
    intro h0
    have c0 := hf2 0 h0 0 (by omega)
    have hb0 : b < W.heap.size := by
      have : W.cell? ⟨b, off + (0 * 4 + 0), none⟩ = some (.bool (f 0).com) := c0
      exact World.block_lt_of_cell? W _ this
    refine ⟨b, off, rfl, hb0, fun t ht => ?_⟩
    have hj : t / 4 < len := by omega
    have h1 := hf2 (t / 4) hj (t % 4) (by omega)
    have e1 : t / 4 * 4 + t % 4 = t := by omega
    have h2 := flat_get sdC_len ((List.range len).map f) (t / 4) (t % 4) (by rw [hL]; exact hj) (by omega)
    rw [e1] at h1 h2
    rw [h1, h2]
    simp
theorem open_saids {W : World} {r : Reach} {base b0 : Nat} {hd : Bool} {v : Value} {d : DataW H} {p : List MemPlace}
    (hval : Value.okWide Tryd.prog W r b0 40 v) (h : DataW.Trod enc Tryd.prog W base (fun _ => true) hd 40 v d p) : ∃ l : List Sd, RdK 4 sdC W v l := by
  obtain ⟨a, len, cap, rfl⟩ := okWide_slice Tryd.underlying40 hval
  obtain ⟨fuel, hf⟩ := h
  exact open_saids_at (by simpa [Value.cells] using hf)
end
end Go.Proofs.YtgmblgpfgdfnaaaDoor
namespace Go.Proofs.YtgmblgpfgdfnaaaDoor
open Go.RowKit
set_option linter.unusedVariables false
section
variable {P : Program} {ops : Array Oper} {Q : Exit → Act → World → Prop} {n : Nat}
theorem e_start {id : Nat} {a : Act} {w : World} (hm : P.follows .mixedOrders = true) (h : wpO P ops 0 Q ops.size (Array.replicate ops.size false) a w.drew) : (Code.region id ops true).wp P Q a w := t_start 0 hm (t_into h)
theorem t_tail2 {i k : Nat} {oi ok : Oper} {f : Nat} {l : Array Bool} {a : Act} {w : World} (hi : ops[i]? = some oi) (hk : ops[k]? = some ok) (hr : Region.ready .any ops l = [i, k]) (hin : decide (n ≤ i ∧ n ≤ k) = true)
    (hwi : Region.wanted oi (yielded ops a.tmps) = true) (hwk : Region.wanted ok (yielded ops a.tmps) = true)
    (h1 : ∀ K : Act → World → Prop, (∀ a' w', wpO P ops n Q f (l.setIfInBounds i true) a' w' → K a' w') → oi.wp P a w K Q)
    (h2 : ∀ K : Act → World → Prop, (∀ a' w', wpO P ops n Q f (l.setIfInBounds k true) a' w' → K a' w') → ok.wp P a w K Q) : wpO P ops n Q (f + 1) l a w := by
  intro S
  have hb := of_decide_eq_true hin
  refine ⟨fun e => (by rw [hr] at e; cases e), ?_⟩
  intro j hj
  rw [hr, List.mem_cons, List.mem_singleton] at hj
  rcases hj with rfl | rfl
  · unfold wpOp
    simp only [hi, hwi, if_true]
    exact .inl (h1 _ fun a' w' k => ⟨fun hlt => absurd hlt (Nat.not_lt_of_le hb.1), k S⟩)
  · unfold wpOp
    simp only [hk, hwk, if_true]
    exact .inl (h2 _ fun a' w' k => ⟨fun hlt => absurd hlt (Nat.not_lt_of_le hb.2), k S⟩)
/-- What is behind a region, once for all its orders: two slots are written, and the world is w'. -/
theorem region_two {c : Code} {a : Act} {w : World} (d d' : Option Tmp) (v v' : Value) (w' : World) (h : c.wp P (fun e x y => e = .normal ∧ x = (a.put d v).put d' v' ∧ y = w') a w) (k : Q .normal ((a.put d v).put d' v') w') : c.wp P Q a w :=
  Code.wp_mono (by rintro e x y ⟨rfl, rfl, rfl⟩; exact k) h
end
end Go.Proofs.YtgmblgpfgdfnaaaDoor
