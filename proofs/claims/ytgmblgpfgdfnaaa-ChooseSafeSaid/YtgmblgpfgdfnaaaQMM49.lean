/- Choose: changes among the arguments. -/
import Derived.Test.YtgmblgpfgdfnaaaQMM30
import Derived.Lib.SmallJoins
import Derived.ProofKit
import Derived.OpenShut
import Derived.SliceStrings
import Derived.ChangeOld
namespace Go.Proofs.Ytgmblgpfgdfnaaa
open Go Go.ChangeShapes Go.WideShapes Go.ChangeAt Go.RowKit Go.Joins
set_option linter.unusedVariables false
set_option linter.unusedSimpArgs false
set_option maxRecDepth 100000
theorem cert_cells31 : Try.prog.cellsOf 58 = 5 := by kernel_rfl
theorem change_cells31 : Try.prog.cellsOf 56 = 6 := by kernel_rfl
theorem some_cells31 : Try.prog.cellsOf 51 = 4 := by kernel_rfl
theorem int_cells31 : Try.prog.cellsOf 3 = 1 := by kernel_rfl
theorem u16_cells31 : Try.prog.cellsOf 49 = 1 := by kernel_rfl
theorem str_cells31 : Try.prog.cellsOf 9 = 1 := by kernel_rfl
theorem stmts_cells31 : Try.prog.cellsOf 26 = 1 := by kernel_rfl
theorem certs_cells31 : Try.prog.cellsOf 54 = 1 := by kernel_rfl
theorem changes_cells31 : Try.prog.cellsOf 48 = 1 := by kernel_rfl
theorem array4 {α : Type} {cs : Array α} (h : cs.size = 4) : ∃ c0 c1 c2 c3, cs = #[c0, c1, c2, c3] := by
  obtain ⟨l⟩ := cs
  match l, h with
  | [c0, c1, c2, c3], _ => exact ⟨c0, c1, c2, c3, rfl⟩
section
variable {H : Type} {enc : TypeId × Value → H}
theorem open_rdk31 {α : Type} {en : α → List Value} {k : Nat} (hk : ∀ x, (en x).length = k) (hk0 : 0 < k) (d0 : α) {T E : TypeId} (hT : Try.prog.underlying T = some (.slice E)) (hE : Try.prog.cellsOf E = k) {W : World} {base : Nat} {hd : Bool} {Q : α → Prop}
    (hof : ∀ fuel cs y, cs.length = k → DataW.trod enc Try.prog W base (fun _ => true) hd fuel E cs = some y → ∃ x, cs = en x ∧ Q x) {fuel : Nat} {v : Value} {y : DataW H × List MemPlace}
    (hf : DataW.trod enc Try.prog W base (fun _ => true) hd fuel T [v] = some y) : ∃ l : List α, RdK k en W v l ∧ ∀ x ∈ l, Q x := by
  rcases DataW.trod_slice hT hf with ⟨hcs, _⟩ | ⟨x, l, c, elems, rest, n, _, hcs, _, hb, hl, hm, hlen, hel, _, _⟩
  · simp at hcs
    subst hcs
    exact ⟨[], rdk_nil W, fun x hx => by cases hx⟩
  · simp at hcs
    subst hcs
    obtain ⟨len, rfl⟩ : ∃ len, len = l := ⟨_, rfl⟩
    obtain ⟨cap, rfl⟩ : ∃ cap, cap = c := ⟨_, rfl⟩
    by_cases h0 : len = 0
    · subst h0
      exact ⟨[], ⟨some x, cap, rfl, Nat.zero_le _, hm, by simp, by simp⟩, fun x hx => by cases hx⟩
    obtain ⟨b, off, sp⟩ := x
    have hs : sp = none := by
      have h1 := hel 0 (by omega)
      rw [List.getElem?_eq_getElem (by omega : 0 < elems.length), Option.bind_eq_some_iff] at h1
      obtain ⟨cs0, q2, _⟩ := h1
      rw [hE] at q2
      have q3 := World.cells?_some q2
      have q4 := q3.2.2 0 (by omega)
      have hl0 : 0 < cs0.length := by have := q3.2.1; omega
      rw [List.getElem?_eq_getElem hl0] at q4
      simpa [Addr.add] using World.cell?_spot q4
    subst hs
    have each : ∀ j, j < len → ∃ it : α, (∀ i, i < k → W.cell? ⟨b, off + (j * k + i), none⟩ = (en it)[i]?) ∧ Q it := by
      intro j hj
      have h1 := hel j hj
      rw [List.getElem?_eq_getElem (by omega : j < elems.length), Option.bind_eq_some_iff] at h1
      obtain ⟨cs, hc1, hy⟩ := h1
      rw [hE] at hc1
      obtain ⟨_, hl5, hcell⟩ := World.cells?_some hc1
      obtain ⟨it, hx, hb9⟩ := hof _ cs _ hl5 hy
      refine ⟨it, fun i hi => ?_, hb9⟩
      have := hcell i hi
      rw [hx, Addr.add_lit, Addr.add_lit, Nat.add_assoc] at this
      exact this
    have pick : ∃ f : Nat → α, ∀ j, j < len → (∀ i, i < k → W.cell? ⟨b, off + (j * k + i), none⟩ = (en (f j))[i]?) ∧ Q (f j) := by
      refine ⟨fun j => if h : j < len then (each j h).choose else d0, fun j hj => ?_⟩
      simp only [hj, dite_true]
      exact (each j hj).choose_spec
    obtain ⟨f, hf3⟩ := pick
    have hf2 : ∀ j, j < len → ∀ i, i < k → W.cell? ⟨b, off + (j * k + i), none⟩ = (en (f j))[i]? := fun j hj => (hf3 j hj).1
    have hL : ((List.range len).map f).length = len := by simp
    refine ⟨(List.range len).map f, ⟨some ⟨b, off, none⟩, cap, by rw [hL], by rw [hL]; exact hl, hm, by simp, ?_⟩, fun x hx => by
      rw [List.mem_map] at hx
      obtain ⟨j, hj, rfl⟩ := hx
      exact (hf3 j (List.mem_range.1 hj)).2⟩
    rw [hL]
    intro h0
    have c0 := hf2 0 h0 0 hk0
    have hb0 : b < W.heap.size := by
      have h9 : 0 < (en (f 0)).length := by rw [hk]; exact hk0
      rw [List.getElem?_eq_getElem h9] at c0
      exact World.block_lt_of_cell? W _ c0
    refine ⟨b, off, rfl, hb0, fun t ht => ?_⟩
    have hj : t / k < len := by rw [Nat.div_lt_iff_lt_mul hk0]; exact ht
    have h1 := hf2 (t / k) hj (t % k) (Nat.mod_lt _ hk0)
    have e1 : t / k * k + t % k = t := Nat.div_add_mod' t k
    have h2 := flat_get hk ((List.range len).map f) (t / k) (t % k) (by rw [hL]; exact hj) (Nat.mod_lt _ hk0)
    rw [e1] at h1 h2
    rw [h1, h2]
    simp
theorem stmts_of31 {W : World} {base : Nat} {fuel : Nat} {hd : Bool} {v : Value} {y : DataW H × List MemPlace}
    (hf : DataW.trod enc Try.prog W base (fun _ => true) hd fuel 26 [v] = some y) : ∃ s : Sv, v = .slice s.a s.n s.k ∧ s.ok := by
  rcases DataW.trod_slice Try.underlying26 hf with ⟨hcs, _⟩ | ⟨x, l, c, elems, rest, n, _, hcs, _, hb, hl, hm, _⟩
  · simp at hcs
    subst hcs
    exact ⟨⟨none, 0, 0⟩, rfl, Nat.le_refl _, Nat.zero_le _⟩
  · simp at hcs
    subst hcs
    exact ⟨⟨some x, l, c⟩, rfl, hl, hm⟩
theorem cert_of31 {W : World} {base : Nat} {hd : Bool} (fuel : Nat) (cs : List Value) (y : DataW H × List MemPlace) (hl : cs.length = 5)
    (hy : DataW.trod enc Try.prog W base (fun _ => true) hd fuel 58 cs = some y) : ∃ x : Ce, cs = ceC x ∧ x.vo.ok ∧ x.body.length ≤ maxLen := by
  match cs, hl with
  | [u0, u1, u2, u3, u4], _ =>
    obtain ⟨xs, n, _, hx, _, hlen, hg⟩ := DataW.trod_struct Try.underlying58 hy
    match xs, hlen with
    | [y0, y1, y2, y3, y4], _ =>
      have h0 := hg 0 _ rfl
      have h1 := hg 1 _ rfl
      have h2 := hg 2 _ rfl
      have h3 := hg 3 _ rfl
      have h4 := hg 4 _ rfl
      simp [int_cells31, str_cells31, stmts_cells31] at h0 h1 h2 h3 h4
      obtain ⟨a0, e0, _, w0⟩ := DataW.trod_int Try.underlying3 h0
      obtain ⟨a1, e1, _, w1⟩ := DataW.trod_int Try.underlying3 h1
      obtain ⟨a2, e2, _, w2⟩ := DataW.trod_int Try.underlying3 h2
      obtain ⟨a3, e3, _, w3⟩ := DataW.trod_string Try.underlying9 h3
      obtain ⟨s, e4, hs⟩ := stmts_of31 h4
      simp at e0 e1 e2 e3
      subst e0 e1 e2 e3 e4
      refine ⟨⟨a0, a1, a2, a3.data.toList, s⟩, ?_, hs, ?_⟩
      · unfold ceC
        simp only
        rw [str_of]
      · show a3.data.toList.length ≤ maxLen
        rw [Array.length_toList]
        exact w3
theorem change_of31 {W : World} {base : Nat} {hd : Bool} (fuel : Nat) (cs : List Value) (y : DataW H × List MemPlace) (hl : cs.length = 6)
    (hy : DataW.trod enc Try.prog W base (fun _ => true) hd fuel 56 cs = some y) : ∃ x : Cg, cs = cgC x ∧ x.pr.ok ∧ RdCs W (.slice x.cv.a x.cv.n x.cv.k) x.cs := by
  match cs, hl with
  | [u0, u1, u2, u3, u4, u5], _ =>
    obtain ⟨xs, n, _, hx, _, hlen, hg⟩ := DataW.trod_struct Try.underlying56 hy
    match xs, hlen with
    | [y0, y1, y2, y3, y4, y5], _ =>
      have h0 := hg 0 _ rfl
      have h1 := hg 1 _ rfl
      have h2 := hg 2 _ rfl
      have h3 := hg 3 _ rfl
      have h4 := hg 4 _ rfl
      have h5 := hg 5 _ rfl
      simp [int_cells31, certs_cells31, stmts_cells31] at h0 h1 h2 h3 h4 h5
      obtain ⟨a0, e0, _, w0⟩ := DataW.trod_int Try.underlying3 h0
      obtain ⟨a1, e1, _, w1⟩ := DataW.trod_int Try.underlying3 h1
      obtain ⟨a2, e2, _, w2⟩ := DataW.trod_int Try.underlying3 h2
      obtain ⟨a3, e3, _, w3⟩ := DataW.trod_int Try.underlying3 h3
      obtain ⟨s, e4, hs⟩ := stmts_of31 h4
      obtain ⟨l, hr, hq⟩ := open_rdk31 ceC_len (by decide) ⟨0, 0, 0, [], ⟨none, 0, 0⟩⟩ Try.underlying54 cert_cells31 cert_of31 h5
      obtain ⟨ao, cap, rfl, hc1, hc2, hr2⟩ := hr.open
      simp at e0 e1 e2 e3
      subst e0 e1 e2 e3 e4
      exact ⟨⟨a0, a1, a2, a3, s, ⟨ao, l.length, cap⟩, l⟩, rfl, hs, hr2, hq⟩
theorem open_some31 {W : World} {r : Reach} {base b0 : Nat} {hd : Bool} {v : Value} {d : DataW H} {p : List MemPlace}
    (hval : Value.okWide Try.prog W r b0 51 v) (h : DataW.Trod enc Try.prog W base (fun _ => true) hd 51 v d p) :
    ∃ (l : List Cg) (u : Value) (n seq lv : Int), v = .agg #[u, .int .i64 n, .int .i64 seq, .int .u16 lv] ∧ RdCg W u l ∧ (-9223372036854775808 ≤ seq ∧ seq ≤ 9223372036854775807) ∧ (0 ≤ lv ∧ lv < 65536) := by
  obtain ⟨cs, rfl, hsz⟩ := okWide_struct Try.underlying51 hval
  obtain ⟨u0, u1, u2, u3, rfl⟩ := array4 (hsz.trans some_cells31)
  obtain ⟨fuel, hf⟩ := h
  have hf2 : DataW.trod enc Try.prog W base (fun _ => true) hd fuel 51 [u0, u1, u2, u3] = some (d, p) := hf
  obtain ⟨xs, n, _, hx, _, hlen, hg⟩ := DataW.trod_struct Try.underlying51 hf2
  match xs, hlen with
  | [y0, y1, y2, y3], _ =>
    have h0 := hg 0 _ rfl
    have h1 := hg 1 _ rfl
    have h2 := hg 2 _ rfl
    have h3 := hg 3 _ rfl
    simp [int_cells31, changes_cells31, u16_cells31] at h0 h1 h2 h3
    obtain ⟨l, hr, hq⟩ := open_rdk31 cgC_len (by decide) ⟨0, 0, 0, 0, ⟨none, 0, 0⟩, ⟨none, 0, 0⟩, []⟩ Try.underlying48 change_cells31 change_of31 h0
    obtain ⟨a1, e1, _, w1⟩ := DataW.trod_int Try.underlying3 h1
    obtain ⟨a2, e2, _, w2⟩ := DataW.trod_int Try.underlying3 h2
    obtain ⟨a3, e3, _, w3⟩ := DataW.trod_int Try.underlying49 h3
    simp at e1 e2 e3
    subst e1 e2 e3
    refine ⟨l, u0, a1, a2, a3, rfl, ⟨hr, hq⟩, ?_, ?_⟩
    · simp [Lit.wf, IntKind.min, IntKind.max, IntKind.signed, IntKind.bits] at w2; omega
    · simp [Lit.wf, IntKind.min, IntKind.max, IntKind.signed, IntKind.bits] at w3; omega
end
end Go.Proofs.Ytgmblgpfgdfnaaa
