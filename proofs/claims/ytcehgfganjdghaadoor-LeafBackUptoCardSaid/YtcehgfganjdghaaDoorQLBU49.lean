/- Leaves: chunks among the arguments: a slice of slices of bytes. -/
/- What a bound on the bulk gives: lengths. -/
/- Leaves: chunks among the arguments, their bulk bounded. -/
import Derived.Test.YtcehgfganjdghaaDoorQLBU39
import Derived.Deep.Matrix
import Derived.Test.YtcehgfganjdghaaDoorQLBU44
import Derived.Test.YtcehgfganjdghaaDoorRows
namespace Go.Proofs.YtcehgfganjdghaaDoor
open Go.ChangeShapes Go.WideShapes Go.ChangeAt Go.RowKit Go.Joins Go.Deep
set_option linter.unusedVariables false
set_option maxRecDepth 100000
theorem slices_cells : Tryd.prog.cellsOf 58 = 1 := by kernel_rfl
theorem bytes_cells : Tryd.prog.cellsOf 5 = 1 := by kernel_rfl
section
variable {H : Type} {enc : TypeId × Value → H}
theorem open_pieces {W : World} {r : Reach} {b0 : Nat} {v : Value} {d : DataW H} {p : List MemPlace}
    (hval : Value.okWide Tryd.prog W r b0 54 v) (h : DataW.Trod enc Tryd.prog W 0 (fun _ => true) true 54 v d p) : ∃ ls, RdP W v ls := by
  obtain ⟨ao, len, cap, rfl⟩ := okWide_slice Tryd.underlying54 hval
  obtain ⟨fuel, hf⟩ := h
  rcases open_int_rows Tryd.underlying54 Tryd.underlying58 Tryd.underlying5 slices_cells bytes_cells hf with ⟨hcs, _⟩ | ⟨a, len', cap', A, L, C, Z, hcs, _, hl, hm, _, hx⟩
  · simp [Value.cells] at hcs
    obtain ⟨rfl, rfl, rfl⟩ := hcs
    exact ⟨[], none, 0, rfl, Nat.le_refl _, by decide, fun _ => rfl, fun hp => by simp at hp⟩
  · simp [Value.cells] at hcs
    obtain ⟨rfl, rfl, rfl⟩ := hcs
    refine ⟨(List.range len).map fun i => ((Z i).take (L i)).map fun n => UInt8.ofNat n.toNat, some a, cap, by simp, by simpa using hl, hm, by simp, fun hp => ?_⟩
    simp only [List.length_map, List.length_range] at hp ⊢
    obtain ⟨b, off, sp⟩ := a
    have hs : sp = none := by simpa [Addr.add] using World.cell?_spot (hx 0 (by omega)).1
    subst hs
    refine ⟨b, off, rfl, ?_, fun i hi => ?_⟩
    · have := World.block_lt_of_cell? W _ (hx 0 (by omega)).1
      simpa [Addr.add] using this
    · obtain ⟨c1, c2, c3, c4, c5, c6, c7⟩ := hx i (by omega)
      refine ⟨.slice (A i) (L i) (C i), by rw [← Addr.add_lit]; exact c1, ?_⟩
      have e : ((List.range len).map fun i => ((Z i).take (L i)).map fun n => UInt8.ofNat n.toNat).getD i [] = ((Z i).take (L i)).map fun n => UInt8.ofNat n.toNat := by
        simp [List.getD, hi]
      rw [e]
      cases hA : A i with
      | none =>
        have hc := c6 hA
        rw [hc] at c2 c4 ⊢
        have hL : L i = 0 := by omega
        rw [hL]
        simpa using rd_nil W
      | some a' => exact rd_of_ints c2 c3 c4 (fun k hk => (c7 a' hA).2 k (by omega)) c5
end
end Go.Proofs.YtcehgfganjdghaaDoor
namespace Go.Proofs.YtcehgfganjdghaaDoor
theorem bulk_pos {H : Type} (d : DataW H) : 1 ≤ Rows.uptoBulk d := by
  cases d with
  | lit l => cases l <;> simp [Rows.uptoBulk]
  | _ => simp [Rows.uptoBulk]
theorem bulk_part {H : Type} {d : DataW H} : ∀ {l : List (DataW H)}, d ∈ l → Rows.uptoBulk d ≤ Rows.uptoBulkAll l
  | x :: r, h => by
    simp only [Rows.uptoBulkAll]
    rcases List.mem_cons.1 h with rfl | e
    · omega
    · have := bulk_part e; omega
theorem bulk_len {H : Type} : ∀ l : List (DataW H), l.length ≤ Rows.uptoBulkAll l
  | [] => by simp
  | x :: r => by
    have h1 := bulk_pos x
    have h2 := bulk_len r
    simp only [Rows.uptoBulkAll, List.length_cons]; omega
theorem bulk_slice {H : Type} (elems spare : List (DataW H)) : elems.length ≤ Rows.uptoBulk (.slice elems spare) := by
  have := bulk_len elems
  simp only [Rows.uptoBulk]; omega
theorem bulk_bound {H : Type} {l : List (DataW H)} (hk : Rows.uptoSmall H l = true) {d : DataW H} (h : d ∈ l) : Rows.uptoBulk d ≤ 1048576 := by
  have h1 : Rows.uptoBulkAll l ≤ 1048576 := of_decide_eq_true hk
  exact Nat.le_trans (bulk_part h) h1
end Go.Proofs.YtcehgfganjdghaaDoor
namespace Go.Proofs.YtcehgfganjdghaaDoor
open Go.ChangeShapes Go.WideShapes Go.ChangeAt Go.RowKit Go.Joins Go.Deep
set_option linter.unusedVariables false
set_option maxRecDepth 100000
section
variable {H : Type} {enc : TypeId × Value → H}
theorem open_pieces_upto {W : World} {r : Reach} {b0 : Nat} {v : Value} {d : DataW H} {p : List MemPlace}
    (hval : Value.okWide Tryd.prog W r b0 54 v) (h : DataW.Trod enc Tryd.prog W 0 (fun _ => true) true 54 v d p) (hbk : Rows.uptoBulk d ≤ 1048576) : ∃ ls, RdP W v ls ∧ ls.length ≤ 1048576 := by
  obtain ⟨ls, hp⟩ := open_pieces hval h
  refine ⟨ls, hp, ?_⟩
  obtain ⟨fuel, hf⟩ := h
  obtain ⟨ao0, cap0, hv, _⟩ := hp
  subst hv
  rcases open_int_rows Tryd.underlying54 Tryd.underlying58 Tryd.underlying5 slices_cells bytes_cells hf with ⟨hcs, _⟩ | ⟨a, len', cap', A, L, C, Z, hcs, _, hl, hm, hxx, hx⟩
  · simp [Value.cells] at hcs
    omega
  · simp [Value.cells] at hcs
    obtain ⟨_, h2, _⟩ := hcs
    have hd := congrArg Prod.fst hxx
    simp only at hd
    rw [hd] at hbk
    have := Nat.le_trans (bulk_slice _ _) hbk
    rw [List.length_map, List.length_range] at this
    rw [h2]; exact this
end
end Go.Proofs.YtcehgfganjdghaaDoor
