/- What is said: as a value, as a key of a map, and lists of it. -/
import Derived.Test.YtojjpnkdblaidaaLst
import Derived.Test.YtojjpnkdblaidaaProg
import Derived.Maps.OwnSet
import Derived.DeepKeys4
namespace Go.Proofs.Ytojjpnkdblaidaa
open Go Go.RowKit Go.Maps
set_option linter.unusedVariables false
set_option linter.unusedSimpArgs false
/-- Who, of which kind, and three numbers. -/
structure St where
  a : Int
  b : Int
  c : Int
  d : Int
  e : Int
deriving DecidableEq
def St.cs (s : St) : List Value := [.int .i64 s.a, .int .i64 s.b, .int .i64 s.c, .int .i64 s.d, .int .i64 s.e]
def St.v (s : St) : Value := .agg #[.int .i64 s.a, .int .i64 s.b, .int .i64 s.c, .int .i64 s.d, .int .i64 s.e]
def St.Wf (s : St) : Prop := (Lit.int .i64 s.a).wf = true ∧ (Lit.int .i64 s.b).wf = true ∧ (Lit.int .i64 s.c).wf = true ∧ (Lit.int .i64 s.d).wf = true ∧ (Lit.int .i64 s.e).wf = true
def kl (s : St) : Lit := .string (keyBytes [.int .i64 s.a, .int .i64 s.b, .int .i64 s.c, .int .i64 s.d, .int .i64 s.e])
theorem v_inj {s t : St} (h : s.v = t.v) : s = t := by
  cases s; cases t
  simp [St.v] at h
  simp [h]
theorem Lwide : (match Try.prog.underlying 39 with | some (.array _ _) | some (.struct _) => true | _ => false) = true := by kernel_rfl
theorem law : Keyed Try.prog 39 := Keyed.of_law (deep_law_laid (by kernel_rfl : laidOutB Try.prog = true) (m := 3) (by omega) (of_decide_eq_true (by kernel_rfl)) (by kernel_rfl) Lwide)
theorem key_st (s : St) (h : s.Wf) : keyOf Try.prog 39 s.v = some (kl s) := by
  obtain ⟨h1, h2, h3, h4, h5⟩ := h
  have e : keyOf Try.prog 39 s.v = (Try.prog.keyLits (Try.prog.types.size + 1) 39 s.cs).map fun ls => .string (keyBytes ls) := by kernel_rfl
  rw [e]
  have c5 : Try.prog.cellsOf 39 = 5 := by kernel_rfl
  have c1 : Try.prog.cellsOf 3 = 1 := by kernel_rfl
  obtain ⟨m, hm⟩ : ∃ m, Try.prog.types.size = m + 1 := ⟨Try.prog.types.size - 1, by kernel_rfl⟩
  rw [hm]
  simp [Program.keyLits, Try.underlying39, Try.underlying3, St.cs, c5, c1, h1, h2, h3, h4, h5, kl]
theorem kl_inj {s t : St} (hs : s.Wf) (ht : t.Wf) (h : kl s = kl t) : s = t :=
  v_inj (law.inj (key_st s hs) ((key_st t ht).trans (by rw [h])))
/-- The set of what was said. -/
def setD (L : List St) : DataW Unit := setOf (.agg []) (L.map kl)
theorem has_setD (L : List St) (s : St) (hL : ∀ x ∈ L, x.Wf) (hs : s.Wf) : Maps.has (setD L) (kl s) = decide (s ∈ L) := by
  unfold setD
  rw [has_setOf _ _ _ (by intro x hx; obtain ⟨t, _, rfl⟩ := List.mem_map.1 hx; trivial), List.any_map, Bool.eq_iff_iff, List.any_eq_true, decide_eq_true_eq]
  constructor
  · rintro ⟨t, h1, h2⟩
    have h3 : kl t = kl s := (WideAt.sameKey_eq h2)
    rw [← kl_inj (hL t h1) hs h3]; exact h1
  · intro h; refine ⟨s, h, ?_⟩; show (kl s).sameKey (kl s) = true; exact WideAt.sameKey_self (by trivial)
theorem setD_snoc (L : List St) (s : St) : setD (L ++ [s]) = (setD L).put (kl s) (.agg []) := by
  unfold setD
  rw [List.map_append, List.map_singleton, setOf_snoc]
theorem setD_nil : setD [] = .map [] := rfl
end Go.Proofs.Ytojjpnkdblaidaa
