/- What the laws are handed: lists of numbers, of statements, of what is said by whom; a statement by value. -/
import Derived.Test.YtojjpnkdblaidaaR4K
import Derived.ProofKit
import Derived.OpenShut
namespace Go.Proofs.Ytojjpnkdblaidaa
open Go.ChangeShapes Go.WideShapes Go.ChangeAt Go.RowKit
set_option linter.unusedVariables false
theorem stmt_cells : Try.prog.cellsOf 39 = 5 := by kernel_rfl
theorem said_cells : Try.prog.cellsOf 41 = 6 := by kernel_rfl
theorem int_cells : Try.prog.cellsOf 3 = 1 := by kernel_rfl
/-- A slice of what is said by whom. -/
def RdD (w : World) (v : Value) (D : List (Int × St)) : Prop :=
  ∃ ao cap, v = .slice ao D.length cap ∧ D.length ≤ cap ∧ cap ≤ maxLen ∧ (∀ x ∈ D, x.2.Wf) ∧ Hid (0 < D.length → ∃ b off, ao = some ⟨b, off, none⟩ ∧ b < w.heap.size ∧ ∀ i (hi : i < D.length), w.cell? ⟨b, off + i * 6, none⟩ = some (.int .i64 D[i].1) ∧ At5 w b (off + i * 6 + 1) D[i].2)
theorem RdD.below {w w' : World} {v : Value} {D : List (Int × St)} (h : RdD w v D) (g : Below w.heap.size w w') : RdD w' v D := by
  obtain ⟨ao, cap, h1, h2, h3, h4, h5⟩ := h
  refine ⟨ao, cap, h1, h2, h3, h4, Lib.hid fun hp => ?_⟩
  obtain ⟨b, off, h6, h7, h8⟩ := h5.out hp
  exact ⟨b, off, h6, Nat.lt_of_lt_of_le h7 g.size, fun i hi => ⟨(World.cell?_of_block (g.block b h7)).trans (h8 i hi).1, (h8 i hi).2.of (g.block b h7)⟩⟩
section
variable {H : Type} {enc : TypeId × Value → H}
theorem trod_stmt {W : World} {base fuel : Nat} {sp : Nat → Bool} {hd : Bool} {cs : List Value} {x : DataW H × List MemPlace} (h : DataW.trod enc Try.prog W base sp hd fuel 39 cs = some x) : ∃ s : St, s.Wf ∧ cs = s.cs := by
  obtain ⟨xs, n, _, hx, hcl, hlen, hg⟩ := DataW.trod_struct Try.underlying39 h
  rw [stmt_cells] at hcl
  match cs, hcl, xs, hlen with
  | [c0, c1, c2, c3, c4], _, [y0, y1, y2, y3, y4], _ =>
    have h0 := hg 0 _ rfl
    have h1 := hg 1 _ rfl
    have h2 := hg 2 _ rfl
    have h3 := hg 3 _ rfl
    have h4 := hg 4 _ rfl
    simp [int_cells] at h0 h1 h2 h3 h4
    obtain ⟨a0, e0, _, u0⟩ := DataW.trod_int Try.underlying3 h0
    obtain ⟨a1, e1, _, u1⟩ := DataW.trod_int Try.underlying3 h1
    obtain ⟨a2, e2, _, u2⟩ := DataW.trod_int Try.underlying3 h2
    obtain ⟨a3, e3, _, u3⟩ := DataW.trod_int Try.underlying3 h3
    obtain ⟨a4, e4, _, u4⟩ := DataW.trod_int Try.underlying3 h4
    simp at e0 e1 e2 e3 e4
    subst e0 e1 e2 e3 e4
    exact ⟨⟨a0, a1, a2, a3, a4⟩, ⟨u0, u1, u2, u3, u4⟩, rfl⟩
theorem open_stmt {W : World} {r : Reach} {base b0 : Nat} {sp : Nat → Bool} {hd : Bool} {v : Value} {d : DataW H} {p : List MemPlace}
    (hval : Value.okWide Try.prog W r b0 39 v) (h : DataW.Trod enc Try.prog W base sp hd 39 v d p) : ∃ s : St, v = s.v ∧ s.Wf := by
  obtain ⟨cs, rfl, hsz⟩ := okWide_struct Try.underlying39 hval
  obtain ⟨fuel, hf⟩ := h
  obtain ⟨s, h1, h2⟩ := trod_stmt hf
  refine ⟨s, ?_, h1⟩
  have e : cs.toList = s.cs := h2
  have : cs = s.cs.toArray := by rw [← e]
  rw [this]; rfl
theorem at5_of {W : World} {b o : Nat} {s : St} (h : ∀ i, i < 5 → W.cell? ⟨b, o + i, none⟩ = s.cs[i]?) : At5 W b o s := ⟨h 0 (by omega), h 1 (by omega), h 2 (by omega), h 3 (by omega), h 4 (by omega)⟩
theorem open_stmts {W : World} {r : Reach} {base b0 : Nat} {sp : Nat → Bool} {hd : Bool} {v : Value} {d : DataW H} {p : List MemPlace}
    (hval : Value.okWide Try.prog W r b0 25 v) (h : DataW.Trod enc Try.prog W base sp hd 25 v d p) : ∃ T, RdS W v T := by
  obtain ⟨a, len, cap, rfl⟩ := okWide_slice Try.underlying25 hval
  obtain ⟨fuel, hf⟩ := h
  rcases DataW.trod_slice Try.underlying25 hf with ⟨hcs, _⟩ | ⟨x, l, c, elems, rest, n, _, hcs, _, hb, hl, hm, hlen, hel, _, _⟩
  · simp [Value.cells] at hcs
    obtain ⟨rfl, rfl, rfl⟩ := hcs
    exact ⟨[], none, 0, rfl, by simp, by decide, by simp, Lib.hid fun hp => absurd hp (by simp)⟩
  · simp [Value.cells] at hcs
    obtain ⟨rfl, rfl, rfl⟩ := hcs
    have hall : ∀ j, j < len → ∃ s : St, s.Wf ∧ ∀ i, i < 5 → W.cell? ((x.add (j * 5)).add i) = s.cs[i]? := by
      intro j hj
      have h1 := hel j hj
      rw [List.getElem?_eq_getElem (by omega : j < elems.length), Option.bind_eq_some_iff] at h1
      obtain ⟨cs, hc1, hy⟩ := h1
      rw [stmt_cells] at hc1
      obtain ⟨s, h2, h3⟩ := trod_stmt hy
      have hcell := (World.cells?_some hc1).2.2
      exact ⟨s, h2, fun i hi => by rw [hcell i hi, h3]⟩
    obtain ⟨f, hfn⟩ : ∃ f : Nat → St, ∀ j, j < len → (f j).Wf ∧ ∀ i, i < 5 → W.cell? ((x.add (j * 5)).add i) = (f j).cs[i]? :=
      ⟨fun j => if hj : j < len then (hall j hj).choose else ⟨0, 0, 0, 0, 0⟩, fun j hj => by simp only [hj, dif_pos]; exact (hall j hj).choose_spec⟩
    refine ⟨(List.range len).map f, some x, cap, by simp, by simpa using hl, hm, ?_, Lib.hid fun hp => ?_⟩
    · intro y hy
      obtain ⟨j, hj, rfl⟩ := List.mem_map.1 hy
      exact (hfn j (List.mem_range.1 hj)).1
    · have h0 : 0 < len := by simpa using hp
      obtain ⟨b, off, s⟩ := x
      have hc0 : W.cell? (((⟨b, off, s⟩ : Addr).add (0 * 5)).add 0) = some (.int .i64 (f 0).a) := ((hfn 0 h0).2 0 (by omega)).trans rfl
      have hs : s = none := by simpa [Addr.add] using World.cell?_spot hc0
      subst hs
      refine ⟨b, off, rfl, ?_, fun i hi => ?_⟩
      · have := World.block_lt_of_cell? W _ hc0
        simpa [Addr.add] using this
      · have hi' : i < len := by simpa using hi
        have e : ((List.range len).map f)[i] = f i := by simp
        rw [e]
        refine at5_of fun k hk => ?_
        have := (hfn i hi').2 k hk
        rw [Addr.add_lit, Addr.add_lit] at this
        exact this
theorem open_saids {W : World} {r : Reach} {base b0 : Nat} {sp : Nat → Bool} {hd : Bool} {v : Value} {d : DataW H} {p : List MemPlace}
    (hval : Value.okWide Try.prog W r b0 23 v) (h : DataW.Trod enc Try.prog W base sp hd 23 v d p) : ∃ D, RdD W v D := by
  obtain ⟨a, len, cap, rfl⟩ := okWide_slice Try.underlying23 hval
  obtain ⟨fuel, hf⟩ := h
  rcases DataW.trod_slice Try.underlying23 hf with ⟨hcs, _⟩ | ⟨x, l, c, elems, rest, n, _, hcs, _, hb, hl, hm, hlen, hel, _, _⟩
  · simp [Value.cells] at hcs
    obtain ⟨rfl, rfl, rfl⟩ := hcs
    exact ⟨[], none, 0, rfl, by simp, by decide, by simp, Lib.hid fun hp => absurd hp (by simp)⟩
  · simp [Value.cells] at hcs
    obtain ⟨rfl, rfl, rfl⟩ := hcs
    have hall : ∀ j, j < len → ∃ q : Int × St, q.2.Wf ∧ W.cell? ((x.add (j * 6)).add 0) = some (.int .i64 q.1) ∧ ∀ i, i < 5 → W.cell? ((x.add (j * 6)).add (1 + i)) = q.2.cs[i]? := by
      intro j hj
      have h1 := hel j hj
      rw [List.getElem?_eq_getElem (by omega : j < elems.length), Option.bind_eq_some_iff] at h1
      obtain ⟨cs, hc1, hy⟩ := h1
      rw [said_cells] at hc1
      have hcell := (World.cells?_some hc1).2.2
      obtain ⟨xs, m, _, hx, hcl, hxl, hg⟩ := DataW.trod_struct Try.underlying41 hy
      rw [said_cells] at hcl
      match cs, hcl, xs, hxl with
      | c0 :: ct, hcl, [y0, y1], _ =>
        have g0 := hg 0 _ rfl
        have g1 := hg 1 _ rfl
        have hct : ct.length = 5 := by simpa using hcl
        simp [int_cells, stmt_cells] at g0 g1
        rw [List.take_of_length_le (by omega)] at g1
        obtain ⟨n0, e0, _, w0⟩ := DataW.trod_int Try.underlying3 g0
        obtain ⟨s, h2, h3⟩ := trod_stmt g1
        simp at e0
        subst e0
        refine ⟨(n0, s), h2, by simpa using hcell 0 (by omega), fun i hi => ?_⟩
        rw [hcell (1 + i) (by omega), Nat.add_comm, List.getElem?_cons_succ, h3]
    obtain ⟨f, hfn⟩ : ∃ f : Nat → Int × St, ∀ j, j < len → (f j).2.Wf ∧ W.cell? ((x.add (j * 6)).add 0) = some (.int .i64 (f j).1) ∧ ∀ i, i < 5 → W.cell? ((x.add (j * 6)).add (1 + i)) = (f j).2.cs[i]? :=
      ⟨fun j => if hj : j < len then (hall j hj).choose else (0, ⟨0, 0, 0, 0, 0⟩), fun j hj => by simp only [hj, dif_pos]; exact (hall j hj).choose_spec⟩
    refine ⟨(List.range len).map f, some x, cap, by simp, by simpa using hl, hm, ?_, Lib.hid fun hp => ?_⟩
    · intro y hy
      obtain ⟨j, hj, rfl⟩ := List.mem_map.1 hy
      exact (hfn j (List.mem_range.1 hj)).1
    · have h0 : 0 < len := by simpa using hp
      obtain ⟨b, off, s⟩ := x
      have hc0 := (hfn 0 h0).2.1
      have hs : s = none := by simpa [Addr.add] using World.cell?_spot hc0
      subst hs
      refine ⟨b, off, rfl, ?_, fun i hi => ?_⟩
      · have := World.block_lt_of_cell? W _ hc0
        simpa [Addr.add] using this
      · have hi' : i < len := by simpa using hi
        have e : ((List.range len).map f)[i] = f i := by simp
        rw [e]
        obtain ⟨_, k1, k2⟩ := hfn i hi'
        rw [Addr.add_lit, Addr.add_lit] at k1
        refine ⟨by simpa using k1, at5_of fun k hk => ?_⟩
        have := k2 k hk
        rw [Addr.add_lit, Addr.add_lit] at this
        rw [← this]
        congr 2
        omega
theorem open_nums {W : World} {r : Reach} {base b0 : Nat} {hd : Bool} {v : Value} {d : DataW H} {p : List MemPlace}
    (hval : Value.okWide Try.prog W r b0 22 v) (h : DataW.Trod enc Try.prog W base (fun _ => true) hd 22 v d p) : ∃ xs : List Int, RdV W v (xs.map iv) := by
  obtain ⟨a, len, cap, rfl⟩ := okWide_slice Try.underlying22 hval
  obtain ⟨fuel, hf⟩ := h
  rcases open_ints Try.underlying22 Try.underlying3 (by kernel_rfl) hf with ⟨hcs, _⟩ | ⟨x, l, c, zs, hcs, _, hl, hm, hz, _, hcell, hwz⟩
  · simp [Value.cells] at hcs
    obtain ⟨rfl, rfl, rfl⟩ := hcs
    exact ⟨[], rdv_nil _⟩
  · simp [Value.cells] at hcs
    obtain ⟨rfl, rfl, rfl⟩ := hcs
    exact ⟨_, rdv_of_ints hl hm (by simpa using hz) hcell⟩
end
end Go.Proofs.Ytojjpnkdblaidaa
