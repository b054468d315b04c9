/- Lex: LexBlanks: what its walk asks of the lists. Written by wip/tools/gen16x.py. -/
import Derived.Test.YtkmhjodnddfkeaaDoorQLBC29
import Derived.Test.YtkmhjodnddfkeaaDoorQLBC26
namespace Go.Proofs.YtkmhjodnddfkeaaDoor
open Go Go.RowKit
set_option linter.unusedVariables false
set_option linter.unusedSimpArgs false
def tp0 : Tp := ⟨0, 0, [], 0⟩
theorem toksF_ne : ∀ (f : Nat) (s : List UInt8) (a k e p : Nat), toksF f s a k = .inl (e, p) → e ≠ 0
  | 0, s, a, k, e, p, h => by cases h
  | f + 1, s, a, k, e, p, h => by
    by_cases hlt : a < s.length
    case neg => rw [toks_end (by omega)] at h; cases h
    cases ho : oneP (s.drop a) with
    | inl z =>
      rw [toks_err hlt ho] at h
      injection h with h
      injection h with h1 h2
      have hd : s.drop a = s[a] :: s.drop (a + 1) := List.drop_eq_getElem_cons hlt
      rw [hd] at ho
      rw [← h1]
      exact (one_facts _ _).1 z ho
    | inr y =>
      obtain ⟨x, n⟩ := y
      by_cases hk : k = 1024
      · rw [toks_full hlt ho hk] at h
        injection h with h
        injection h with h1 h2
        omega
      · rw [toks_more hlt ho hk] at h
        cases h1 : toksF f s (a + n + skS false (s.drop (a + n))) (k + 1) with
        | inl z =>
          obtain ⟨z1, z2⟩ := z
          rw [h1] at h
          injection h with h
          injection h with h2 h3
          rw [← h2]
          exact toksF_ne f s _ _ z1 z2 h1
        | inr l => rw [h1] at h; cases h
theorem toksP_ne {s : List UInt8} {e p : Nat} (h : toksP s = .inl (e, p)) : e ≠ 0 := by
  unfold toksP at h
  by_cases hs : 4096 < s.length
  · rw [if_pos hs] at h
    injection h with h
    injection h with h1 h2
    omega
  · rw [if_neg hs] at h
    cases h1 : toksF (s.length + 1) s (skS false s) 0 with
    | inl z =>
      obtain ⟨z1, z2⟩ := z
      rw [h1] at h
      injection h with h
      injection h with h2 h3
      rw [← h2]
      exact toksF_ne _ _ _ _ z1 z2 h1
    | inr l => rw [h1] at h; cases h
theorem asc_at {m : Nat} : ∀ (L : List Tp) (j : Nat), ascL m L → j + 1 < L.length → (L.getD j tp0).at_ < (L.getD (j + 1) tp0).at_ ∧ (L.getD (j + 1) tp0).at_ ≤ m
  | [], j, h, hj => absurd hj (Nat.not_lt_zero _)
  | [x], j, h, hj => by simp at hj
  | x :: y :: r, 0, h, hj => ⟨h.1, h.2.1⟩
  | x :: y :: r, j + 1, h, hj => asc_at (y :: r) j h.2.2 (by simp at hj ⊢; omega)
theorem wide_step (s : List UInt8) : ∀ (L : List Tp) (j : Nat), j + 1 < L.length →
    wideF s (L.drop j) = remL ++ ((s.drop (L.getD j tp0).at_).take ((L.getD (j + 1) tp0).at_ - (L.getD j tp0).at_)) ++ wideF s (L.drop (j + 1))
  | [], j, hj => absurd hj (Nat.not_lt_zero _)
  | [x], j, hj => by simp at hj
  | x :: y :: r, 0, hj => by
    show remL ++ (_ ++ wideF s (y :: r)) = _
    rw [List.append_assoc]
    rfl
  | x :: y :: r, j + 1, hj => wide_step s (y :: r) j (by simp at hj ⊢; omega)
theorem wide_end (s : List UInt8) : ∀ (L : List Tp) (j : Nat), L.length ≤ j + 1 → wideF s (L.drop j) = []
  | [], j, hj => by rw [List.drop_nil]; rfl
  | [x], 0, hj => rfl
  | [x], j + 1, hj => by
    show wideF s (List.drop j []) = []
    rw [List.drop_nil]; rfl
  | x :: y :: r, 0, hj => by simp at hj
  | x :: y :: r, j + 1, hj => wide_end s (y :: r) j (by simp at hj ⊢; omega)
theorem rd_base {w : World} {ao : Option Addr} {n cap : Nat} {L : List Tp} (h : RdK 4 tpC w (.slice ao n cap) L) (hL : 0 < L.length) :
    ∃ b off, ao = some ⟨b, off, none⟩ ∧ b < w.heap.size ∧ ∀ j, j < L.length → w.cell? ⟨b, off + j * 4, none⟩ = some (.int .i64 ((L.getD j tp0).kd : Int)) ∧ w.cell? ⟨b, off + j * 4 + 1, none⟩ = some (.int .i64 ((L.getD j tp0).at_ : Int)) ∧
      w.cell? ⟨b, off + j * 4 + 2, none⟩ = some (.string (str (L.getD j tp0).t)) ∧ w.cell? ⟨b, off + j * 4 + 3, none⟩ = some (.int .i64 (L.getD j tp0).i) := by
  obtain ⟨b, off, h1, h2, -⟩ := RdK.cell tpC_len h 0 hL
  refine ⟨b, off, h1, h2, fun j hj => ?_⟩
  obtain ⟨b', off', h1', -, h3⟩ := RdK.cell tpC_len h j hj
  rw [h1] at h1'
  injection h1' with h1'
  injection h1' with e1 e2 _
  subst e1; subst e2
  have e : L.getD j tp0 = L[j] := by simp [List.getD, hj]
  rw [e]
  have g : ∀ i, i < 4 → w.cell? ⟨b, off + j * 4 + i, none⟩ = (tpC L[j])[i]? := fun i hi => by rw [Nat.add_assoc]; exact h3 i hi
  exact ⟨g 0 (by decide), g 1 (by decide), g 2 (by decide), g 3 (by decide)⟩
theorem strip_at {M L : List Tp} (h : M.map strip = L.map strip) : M.length = L.length ∧ ∀ j, (M.getD j tp0).kd = (L.getD j tp0).kd ∧ (M.getD j tp0).t = (L.getD j tp0).t ∧ (M.getD j tp0).i = (L.getD j tp0).i := by
  refine ⟨by have := congrArg List.length h; simpa using this, fun j => ?_⟩
  have hj := congrArg (fun l => l.getD j (strip tp0)) h
  have e : ∀ l : List Tp, (l.map strip).getD j (strip tp0) = strip (l.getD j tp0) := fun l => by simp [List.getD]
  simp only [e] at hj
  unfold strip at hj
  injection hj with h1 h2
  injection h2 with h2 h3
  exact ⟨h1, h2, h3⟩
end Go.Proofs.YtkmhjodnddfkeaaDoor
