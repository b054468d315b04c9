/- Lex: Tokens. Written by wip/tools/gen16k.py. -/
import Derived.Test.YtkmhjodnddfkeaaDoorQLBC22
namespace Go.Proofs.YtkmhjodnddfkeaaDoor
open Go Go.RowKit
set_option linter.unusedVariables false
set_option linter.unusedSimpArgs false
set_option maxRecDepth 100000
def tpC (x : Tp) : List Value := [.int .i64 (x.kd : Int), .int .i64 (x.at_ : Int), .string (str x.t), .int .i64 x.i]
theorem tpC_len (x : Tp) : (tpC x).length = 4 := rfl
theorem tpC_one (x : Tp) : ∀ u ∈ tpC x, u.oneCell' = true := by
  intro u hu
  simp only [tpC, List.mem_cons, List.not_mem_nil, or_false] at hu
  rcases hu with rfl | rfl | rfl | rfl <;> rfl
theorem tok_info : (Tryd.prog.info? 33).map (fun i => (i.zero, i.size, i.bytes)) = some (some (.agg #[.int .i64 0, .int .i64 0, .string ⟨#[]⟩, .int .i64 0]), 4, 40) := by kernel_rfl
theorem tx_facts : ∀ (n : Nat) (l : List UInt8), l.length ≤ n → (∀ e, txS l = .inl e → e ≠ 0) ∧ (∀ t m, txS l = .inr (t, m) → 1 ≤ m ∧ m ≤ l.length)
  | n, [], _ => by
    rw [tx_end]
    exact ⟨(fun e h => by injection h with h; omega), fun t m h => by cases h⟩
  | 0, c :: r, h => by simp at h
  | n + 1, c :: r, h => by
    by_cases h34 : c = 34
    · subst h34
      rw [tx_quote]
      refine ⟨(fun e h => by cases h), fun t m h => ?_⟩
      injection h with h
      injection h with h1 h2
      subst h2
      exact ⟨Nat.le_refl _, by simp⟩
    · obtain ⟨t1, t2⟩ := tx_step c r h34
      by_cases he : (charP c r).2.1 = 0
      · obtain ⟨e1, e2, e3⟩ := t2 he
        obtain ⟨k, hk⟩ : ∃ k, k = (charP c r).2.2 := ⟨_, rfl⟩
        rw [← hk] at e1 e2 e3
        have hl : ((c :: r).drop k).length ≤ n := by rw [List.length_drop]; simp only [List.length_cons] at h ⊢; omega
        obtain ⟨f1, f2⟩ := tx_facts n _ hl
        rw [e1]
        cases hx : txS ((c :: r).drop k) with
        | inl e =>
          exact ⟨(fun e' h' => by injection h' with h'; subst h'; exact f1 _ hx), fun t m h' => by cases h'⟩
        | inr x =>
          obtain ⟨t, m⟩ := x
          have := f2 t m hx
          rw [List.length_drop] at this
          refine ⟨(fun e' h' => by cases h'), fun t' m' h' => ?_⟩
          injection h' with h'
          injection h' with h1 h2
          subst h2
          exact ⟨by omega, by omega⟩
      · rw [t1 he]
        exact ⟨fun e h' => by injection h' with h'; subst h'; exact he, fun t m h' => by cases h'⟩
theorem one_facts (c : UInt8) (r : List UInt8) : (∀ e, oneP (c :: r) = .inl e → e ≠ 0) ∧ (∀ x n, oneP (c :: r) = .inr (x, n) → 1 ≤ n ∧ n ≤ (c :: r).length) := by
  unfold oneP
  simp only
  by_cases h1 : letB c = true
  · rw [if_pos h1]
    have hp : 1 ≤ spF nmB (c :: r) := by unfold spF; rw [List.takeWhile_cons_of_pos (by unfold nmB; rw [h1]; rfl), List.length_cons]; omega
    have hq := sp_le nmB (c :: r)
    split
    · exact ⟨(fun e h => by injection h with h; omega), fun x n h => by cases h⟩
    · split
      · exact ⟨(fun e h => by cases h), fun x n h => by injection h with h; injection h with h3 h4; subst h4; exact ⟨hp, hq⟩⟩
      · exact ⟨(fun e h => by cases h), fun x n h => by injection h with h; injection h with h3 h4; subst h4; exact ⟨hp, hq⟩⟩
  · rw [if_neg h1]
    by_cases h2 : digB c = true
    · rw [if_pos h2]
      have hp : 1 ≤ spF digB (c :: r) := by unfold spF; rw [List.takeWhile_cons_of_pos h2, List.length_cons]; omega
      have hq := sp_le digB (c :: r)
      split
      · exact ⟨(fun e h => by injection h with h; omega), fun x n h => by cases h⟩
      · split
        · exact ⟨(fun e h => by injection h with h; omega), fun x n h => by cases h⟩
        · exact ⟨(fun e h => by cases h), fun x n h => by injection h with h; injection h with h3 h4; subst h4; exact ⟨hp, hq⟩⟩
    · rw [if_neg h2]
      by_cases h3 : c = 34
      · rw [if_pos h3]
        obtain ⟨f1, f2⟩ := tx_facts r.length r (Nat.le_refl _)
        cases hx : txS r with
        | inl e => exact ⟨(fun e' h => by injection h with h; subst h; exact f1 _ hx), fun x n h => by cases h⟩
        | inr y =>
          obtain ⟨t, m⟩ := y
          have := f2 t m hx
          simp only
          split
          · exact ⟨(fun e h => by injection h with h; omega), fun x n h => by cases h⟩
          · exact ⟨(fun e h => by cases h), fun x n h => by injection h with h; injection h with h3 h4; subst h4; exact ⟨by omega, by simp; omega⟩⟩
      · rw [if_neg h3]
        split
        · rename_i h
          exact ⟨(fun e h => by cases h), fun x n h' => by injection h' with h'; injection h' with h3 h4; subst h4; exact ⟨by decide, h.1⟩⟩
        · split
          · exact ⟨(fun e h => by cases h), fun x n h' => by injection h' with h'; injection h' with h3 h4; subst h4; exact ⟨by decide, by simp⟩⟩
          · exact ⟨(fun e h => by injection h with h; omega), fun x n h => by cases h⟩
def tkA (xs : List Tp) : (Nat × Nat) ⊕ List Tp → (Nat × Nat) ⊕ List Tp
  | .inl z => .inl z
  | .inr l => .inr (xs ++ l)
theorem toks_end {f : Nat} {s : List UInt8} {a k : Nat} (h : s.length ≤ a) : toksF f s a k = .inr [] := by
  cases f with
  | zero => rfl
  | succ f => unfold toksF; rw [if_pos h]
theorem toks_err {f : Nat} {s : List UInt8} {a k e : Nat} (h : a < s.length) (ho : oneP (s.drop a) = .inl e) : toksF (f + 1) s a k = .inl (e, a) := by
  unfold toksF; rw [if_neg (by omega), ho]
theorem toks_full {f : Nat} {s : List UInt8} {a k n : Nat} {x : Tk} (h : a < s.length) (ho : oneP (s.drop a) = .inr (x, n)) (hk : k = 1024) : toksF (f + 1) s a k = .inl (5, a) := by
  unfold toksF; rw [if_neg (by omega), ho]; simp only; rw [if_pos hk]
theorem toks_more {f : Nat} {s : List UInt8} {a k n : Nat} {x : Tk} (h : a < s.length) (ho : oneP (s.drop a) = .inr (x, n)) (hk : k ≠ 1024) : toksF (f + 1) s a k = tkA [⟨x.kd, a, x.t, x.i⟩] (toksF f s (a + n + skS false (s.drop (a + n))) (k + 1)) := by
  conv => lhs; unfold toksF
  rw [if_neg (by omega), ho]
  simp only
  rw [if_neg hk]
  cases toksF f s (a + n + skS false (s.drop (a + n))) (k + 1) <;> rfl
theorem tkA_tkA (a b : List Tp) (R : (Nat × Nat) ⊕ List Tp) : tkA a (tkA b R) = tkA (a ++ b) R := by
  cases R with
  | inl z => rfl
  | inr l => simp [tkA]
theorem tkA_nil (R : (Nat × Nat) ⊕ List Tp) : tkA [] R = R := by cases R <;> rfl
def GivesT (w : World) (R : (Nat × Nat) ⊕ List Tp) (e : Ending) (w' : World) : Prop :=
  (match R with
  | .inl (er, at_) => e = .returned (.tuple #[.slice none 0 0, .int .i64 (er : Int), .int .i64 (at_ : Int)])
  | .inr l => ∃ v, e = .returned (.tuple #[v, .int .i64 0, .int .i64 0]) ∧ RdK 4 tpC w' v l ∧ l.length ≤ 1025) ∧ Below w.heap.size w w'
end Go.Proofs.YtkmhjodnddfkeaaDoor
