/- Lex: blanks and remarks more between tokens: the mathematics. Written by wip/tools/gen16v.py. -/
import Derived.Test.YtkmhjodnddfkeaaDoorQLBC27
namespace Go.Proofs.YtkmhjodnddfkeaaDoor
open Go Go.RowKit
set_option linter.unusedVariables false
set_option linter.unusedSimpArgs false
def remL : List UInt8 := [32, 35, 32, 97, 32, 114, 101, 109, 97, 114, 107, 32, 10, 9]
/-- What stops every reader: the end, or a blank or a remark. -/
def stopB : List UInt8 → Bool
  | [] => true
  | c :: _ => blankB c || c == 35
theorem stop_nm {c : UInt8} {r : List UInt8} (h : stopB (c :: r) = true) : nmB c = false ∧ digB c = false ∧ c ≠ 61 ∧ c ≠ 46 := by
  have : c = 32 ∨ c = 9 ∨ c = 10 ∨ c = 35 := by
    simp only [stopB, blankB, Bool.or_eq_true, beq_iff_eq] at h
    rcases h with (h | h | h) | h <;> simp [h]
  rcases this with h | h | h | h <;> (subst h; decide)
theorem tw_ext {p : UInt8 → Bool} {l X Y : List UInt8} (h : spF p (l ++ X) = l.length) (hy : ∀ c r, Y = c :: r → p c = false) : spF p (l ++ Y) = l.length ∧ l.takeWhile p = l := by
  have e : (l ++ X).takeWhile p = l := by
    rw [← sp_take, h, List.take_left]
  have hall : ∀ c ∈ l, p c = true := fun c hc => List.all_eq_true.1 (List.all_takeWhile (l := l ++ X)) c (by rw [e]; exact hc)
  refine ⟨?_, ?_⟩
  · unfold spF
    rw [List.takeWhile_append_of_pos hall]
    cases Y with
    | nil => simp
    | cons c r => rw [List.takeWhile_cons_of_neg (by rw [hy c r rfl]; decide)]; simp
  · have := List.takeWhile_append_of_pos (p := p) (l₁ := l) (l₂ := []) hall
    simpa using this
theorem txA_inr {A : List UInt8} {k : Nat} {R : Nat ⊕ (List UInt8 × Nat)} {t : List UInt8} {n : Nat} (h : txA A k R = .inr (t, n)) : ∃ t' m, R = .inr (t', m) ∧ t = A ++ t' ∧ n = k + m := by
  cases R with
  | inl e => cases h
  | inr x =>
    obtain ⟨t', m⟩ := x
    injection h with h
    injection h with h1 h2
    exact ⟨t', m, rfl, h1.symm, h2.symm⟩
theorem tx_pos {l t : List UInt8} {m : Nat} (h : txS l = .inr (t, m)) : 1 ≤ m := ((tx_facts l.length l (Nat.le_refl _)).2 t m h).1
theorem charQ_two (d : UInt8) (l : List UInt8) : (charQ (d :: l)).2.2 = 2 := by
  show (if d = 34 then ((34 : UInt8), 0, 2) else if d = 92 then (92, 0, 2) else if d = 110 then (10, 0, 2) else (0, 3, 2)).2.2 = 2
  by_cases h1 : d = 34
  · rw [if_pos h1]
  · rw [if_neg h1]
    by_cases h2 : d = 92
    · rw [if_pos h2]
    · rw [if_neg h2]
      by_cases h3 : d = 110
      · rw [if_pos h3]
      · rw [if_neg h3]
theorem tx_ext : ∀ (n : Nat) (l X Y t : List UInt8), l.length ≤ n → txS (l ++ X) = .inr (t, l.length) → l ≠ [] → txS (l ++ Y) = .inr (t, l.length)
  | 0, l, X, Y, t, hl, h, hne => absurd (List.eq_nil_of_length_eq_zero (Nat.le_zero.1 hl)) hne
  | n + 1, [], X, Y, t, hl, h, hne => absurd rfl hne
  | n + 1, c :: r, X, Y, t, hl, h, hne => by
    have hl' : r.length ≤ n := by simp at hl; omega
    by_cases h34 : c = 34
    · subst h34
      rw [List.cons_append, tx_quote] at h
      injection h with h
      injection h with h1 h2
      rw [List.length_cons] at h2
      have : r = [] := List.eq_nil_of_length_eq_zero (by omega)
      subst this; subst h1
      exact tx_quote Y
    · rw [List.cons_append] at h ⊢
      rw [List.length_cons] at h ⊢
      by_cases hin : c.toNat < 32 ∨ 126 < c.toNat
      · exfalso
        obtain ⟨t1, -⟩ := tx_step c (r ++ X) h34
        have hc : charP c (r ++ X) = (0, 3, 1) := if_pos hin
        rw [hc] at t1
        rw [t1 (by decide)] at h
        cases h
      · by_cases h92 : c = 92
        · subst h92
          cases r with
          | nil =>
            exfalso
            rw [List.nil_append] at h
            obtain ⟨t1, t2⟩ := tx_step 92 X (by decide)
            have hc : charP 92 X = charQ X := (if_neg (by decide)).trans (if_neg (by decide))
            rw [hc] at t1 t2
            cases X with
            | nil => rw [t1 (by decide)] at h; cases h
            | cons d X1 =>
              by_cases e : (charQ (d :: X1)).2.1 = 0
              · obtain ⟨e1, -, -⟩ := t2 e
                rw [e1] at h
                obtain ⟨t', m, -, -, hm⟩ := txA_inr h
                have : (charQ (d :: X1)).2.2 = 2 := charQ_two d X1
                rw [this] at hm
                simp at hm
                omega
              · rw [t1 e] at h; cases h
          | cons d r1 =>
            obtain ⟨t1, -⟩ := tx_step 92 (d :: r1 ++ X) (by decide)
            have hc : charP 92 (d :: r1 ++ X) = charQ (d :: r1 ++ X) := (if_neg (by decide)).trans (if_neg (by decide))
            rw [hc] at t1
            by_cases e : (charQ (d :: r1 ++ X)).2.1 = 0
            · have e2 : (charQ (d :: r1 ++ X)).2.2 = 2 := charQ_two d (r1 ++ X)
              obtain ⟨q, hq⟩ : ∃ q, q = (charQ (d :: r1 ++ X)).1 := ⟨_, rfl⟩
              have eX : charQ (d :: (r1 ++ X)) = (q, 0, 2) := by
                rw [hq]
                exact Prod.ext rfl (Prod.ext e e2)
              have eY : charQ (d :: (r1 ++ Y)) = (q, 0, 2) := eX
              rw [List.cons_append] at h ⊢
              rw [tx_esc eX] at h
              rw [tx_esc eY]
              obtain ⟨t', m, h1, h2, h3⟩ := txA_inr h
              rw [List.length_cons] at h3 hl'
              have hm : m = r1.length := by omega
              rw [hm] at h1
              have hr : r1 ≠ [] := by
                intro e
                rw [e] at h1
                have := tx_pos h1
                simp at this
              rw [tx_ext n r1 X Y t' (by omega) h1 hr, h2]
              simp [txA]; omega
            · rw [t1 e] at h; cases h
        · rw [tx_plain h34 h92 hin] at h ⊢
          obtain ⟨t', m, h1, h2, h3⟩ := txA_inr h
          have hm : m = r.length := by omega
          rw [hm] at h1
          have hr : r ≠ [] := by
            intro e
            rw [e] at h1
            have := tx_pos h1
            simp at this
          rw [tx_ext n r X Y t' hl' h1 hr, h2]
          simp [txA, Nat.add_comm]
theorem sign_two {c d : UInt8} (h : signB [c, d] = true) : d = 61 ∨ d = 46 := by
  unfold signB at h
  rw [List.contains_iff_mem] at h
  simp only [sign2, sign1, List.cons_append, List.nil_append, List.mem_cons, List.not_mem_nil, or_false, List.cons.injEq, and_true, reduceCtorEq, and_false, false_or] at h
  rcases h with h | h | h | h | h <;> simp [h.2]
/-- A reader stops at a blank as it stopped at what stood there. -/
theorem one_ext {l X Y : List UInt8} {x : Tk} (h : oneP (l ++ X) = .inr (x, l.length)) (hy : stopB Y = true) : oneP (l ++ Y) = .inr (x, l.length) := by
  have hnm : ∀ c r, Y = c :: r → nmB c = false := fun c r e => (stop_nm (by rw [← e]; exact hy)).1
  have hdg : ∀ c r, Y = c :: r → digB c = false := fun c r e => (stop_nm (by rw [← e]; exact hy)).2.1
  cases l with
  | nil =>
    exfalso
    rw [List.nil_append] at h
    cases X with
    | nil => cases h
    | cons c r => have := ((one_facts c r).2 x 0 h).1; omega
  | cons c r =>
    obtain ⟨l, hl⟩ : ∃ l, l = c :: r := ⟨_, rfl⟩
    have hone : ∀ Z, oneP (l ++ Z) = (if letB c then (let n := spF nmB (l ++ Z); if 16 < n then .inl 5 else if wordB ((l ++ Z).take n) then .inr (⟨5, (l ++ Z).take n, 0⟩, n) else .inr (⟨1, (l ++ Z).take n, 0⟩, n))
      else if digB c then (let n := spF digB (l ++ Z); if (c = 48 ∧ 1 < n) ∨ 0 < spF nmB ((l ++ Z).drop n) then .inl 3 else if 9223372036854775807 < numV ((l ++ Z).take n) then .inl 8 else .inr (⟨2, [], (numV ((l ++ Z).take n) : Int)⟩, n))
      else if c = 34 then (match txS (r ++ Z) with
        | .inl e => .inl e
        | .inr (t, n) => if 64 < t.length then .inl 5 else .inr (⟨3, t, 0⟩, n + 1))
      else if 2 ≤ (l ++ Z).length ∧ signB ((l ++ Z).take 2) then .inr (⟨4, (l ++ Z).take 2, 0⟩, 2)
      else if signB ((l ++ Z).take 1) then .inr (⟨4, (l ++ Z).take 1, 0⟩, 1) else .inl 3) := fun Z => by subst hl; rfl
    rw [← hl] at h ⊢
    have hlen : 1 ≤ l.length := by rw [hl]; simp
    rw [hone] at h ⊢
    by_cases h1 : letB c = true
    · rw [if_pos h1] at h ⊢
      have hn : spF nmB (l ++ X) = l.length := by
        simp only at h
        split at h
        · cases h
        · split at h <;> (injection h with h; injection h with h2 h3)
      obtain ⟨e1, -⟩ := tw_ext (Y := Y) hn hnm
      simp only [hn, e1, List.take_left] at h ⊢
      exact h
    · rw [if_neg h1] at h ⊢
      by_cases h2 : digB c = true
      · rw [if_pos h2] at h ⊢
        have hn : spF digB (l ++ X) = l.length := by
          simp only at h
          split at h
          · cases h
          · split at h
            · cases h
            · injection h with h; injection h with h2 h3
        obtain ⟨e1, -⟩ := tw_ext (Y := Y) hn hdg
        have eY : spF nmB Y = 0 := by
          cases Y with
          | nil => rfl
          | cons y z => unfold spF; rw [List.takeWhile_cons_of_neg (by rw [hnm y z rfl]; decide)]; rfl
        simp only [hn, e1, List.take_left, List.drop_left, eY] at h ⊢
        split at h
        · cases h
        · rename_i hh
          rw [if_neg (fun e => hh (e.elim .inl (fun e => absurd e (Nat.lt_irrefl 0))))]
          exact h
      · rw [if_neg h2] at h ⊢
        by_cases h3 : c = 34
        · rw [if_pos h3] at h ⊢
          cases ht : txS (r ++ X) with
          | inl e => rw [ht] at h; cases h
          | inr y =>
            obtain ⟨t, m⟩ := y
            rw [ht] at h
            have hm : m = r.length := by
              simp only at h
              split at h
              · cases h
              · injection h with h; injection h with h4 h5; rw [hl, List.length_cons] at h5; omega
            have := tx_pos ht
            rw [hm] at ht
            have hr : r ≠ [] := by intro e; rw [e] at hm; simp at hm; omega
            rw [tx_ext r.length r X Y t (Nat.le_refl _) ht hr]
            rw [hm] at h
            exact h
        · rw [if_neg h3] at h ⊢
          have two : ∀ Z, stopB Z = true → r = [] → ¬ (2 ≤ (l ++ Z).length ∧ signB ((l ++ Z).take 2) = true) := by
            rintro Z hz hr ⟨q1, q2⟩
            rw [hl, hr] at q1 q2
            cases Z with
            | nil => simp at q1
            | cons y z =>
              obtain ⟨-, -, n1, n2⟩ := stop_nm hz
              rcases sign_two q2 with e | e
              · exact n1 e
              · exact n2 e
          split at h
          · rename_i hh
            injection h with h
            injection h with h4 h5
            have hlt : (l ++ X).take 2 = l := by rw [h5, List.take_left]
            have hlt2 : (l ++ Y).take 2 = l := by rw [h5, List.take_left]
            rw [hlt] at hh h4
            rw [hlt2, if_pos ⟨by rw [List.length_append]; omega, hh.2⟩, ← h4, ← h5]
          · split at h
            · rename_i _ hh
              injection h with h
              injection h with h4 h5
              have hr : r = [] := by rw [hl, List.length_cons] at h5; exact List.eq_nil_of_length_eq_zero (by omega)
              have hlt : (l ++ X).take 1 = l := by rw [h5, List.take_left]
              have hlt2 : (l ++ Y).take 1 = l := by rw [h5, List.take_left]
              rw [hlt] at hh h4
              rw [if_neg (two Y hy hr), hlt2, if_pos hh, ← h4, ← h5]
            · cases h
end Go.Proofs.YtkmhjodnddfkeaaDoor
