/- Statements in memory; two of them compared. -/
import Derived.Test.YtojjpnkdblaidaaR4E
namespace Go.Proofs.Ytojjpnkdblaidaa
open Go Go.RowKit Go.Maps
set_option linter.unusedVariables false
set_option linter.unusedSimpArgs false
theorem eq_st (s t : St) (w : World) : (binOp .eql 39 (.agg #[.int .i64 s.a, .int .i64 s.b, .int .i64 s.c, .int .i64 s.d, .int .i64 s.e]) (.agg #[.int .i64 t.a, .int .i64 t.b, .int .i64 t.c, .int .i64 t.d, .int .i64 t.e])).run Try.prog w = .ok (.bool (decide (s = t))) w := by
  have h : s = t ↔ s.a = t.a ∧ s.b = t.b ∧ s.c = t.c ∧ s.d = t.d ∧ s.e = t.e := by cases s; cases t; simp
  by_cases h1 : s.a = t.a <;> by_cases h2 : s.b = t.b <;> by_cases h3 : s.c = t.c <;> by_cases h4 : s.d = t.d <;> by_cases h5 : s.e = t.e <;> simp [h, h1, h2, h3, h4, h5] <;> go_simp
theorem ne_st (s t : St) (w : World) : (binOp .neq 39 (.agg #[.int .i64 s.a, .int .i64 s.b, .int .i64 s.c, .int .i64 s.d, .int .i64 s.e]) (.agg #[.int .i64 t.a, .int .i64 t.b, .int .i64 t.c, .int .i64 t.d, .int .i64 t.e])).run Try.prog w = .ok (.bool (!decide (s = t))) w := by
  have h : s = t ↔ s.a = t.a ∧ s.b = t.b ∧ s.c = t.c ∧ s.d = t.d ∧ s.e = t.e := by cases s; cases t; simp
  by_cases h1 : s.a = t.a <;> by_cases h2 : s.b = t.b <;> by_cases h3 : s.c = t.c <;> by_cases h4 : s.d = t.d <;> by_cases h5 : s.e = t.e <;> simp [h, h1, h2, h3, h4, h5] <;> go_simp
/-- Five cells that hold a statement. -/
def At5 (w : World) (b o : Nat) (s : St) : Prop :=
  w.cell? ⟨b, o, none⟩ = some (.int .i64 s.a) ∧ w.cell? ⟨b, o + 1, none⟩ = some (.int .i64 s.b) ∧ w.cell? ⟨b, o + 2, none⟩ = some (.int .i64 s.c) ∧ w.cell? ⟨b, o + 3, none⟩ = some (.int .i64 s.d) ∧ w.cell? ⟨b, o + 4, none⟩ = some (.int .i64 s.e)
theorem At5.of {w w' : World} {b o : Nat} {s : St} (h : At5 w b o s) (g : w'.heap[b]? = w.heap[b]?) : At5 w' b o s := by
  have e : ∀ i, w'.cell? ⟨b, i, none⟩ = w.cell? ⟨b, i, none⟩ := fun i => World.cell?_of_block g
  obtain ⟨h1, h2, h3, h4, h5⟩ := h
  exact ⟨(e _).trans h1, (e _).trans h2, (e _).trans h3, (e _).trans h4, (e _).trans h5⟩
/-- A slice of statements that is read. -/
def RdS (w : World) (v : Value) (T : List St) : Prop :=
  ∃ ao cap, v = .slice ao T.length cap ∧ T.length ≤ cap ∧ cap ≤ maxLen ∧ (∀ x ∈ T, x.Wf) ∧ Hid (0 < T.length → ∃ b off, ao = some ⟨b, off, none⟩ ∧ b < w.heap.size ∧ ∀ i (hi : i < T.length), At5 w b (off + i * 5) T[i])
theorem RdS.below {w w' : World} {v : Value} {T : List St} (h : RdS w v T) (g : Below w.heap.size w w') : RdS w' v T := by
  obtain ⟨ao, cap, h1, h2, h3, h4, h5⟩ := h
  refine ⟨ao, cap, h1, h2, h3, h4, Lib.hid fun hp => ?_⟩
  obtain ⟨b, off, h6, h7, h8⟩ := h5.out hp
  exact ⟨b, off, h6, Nat.lt_of_lt_of_le h7 g.size, fun i hi => (h8 i hi).of (g.block b h7)⟩
theorem int_info : (Try.prog.info? 3).map (fun i => (i.zero, i.size, i.bytes)) = some (some (.int .i64 0), 1, 8) := by kernel_rfl
end Go.Proofs.Ytojjpnkdblaidaa
