/- Clash: the pairs of places, the lists of those ahead, place by place. Plain mathematics. -/
import Derived.Test.YtjmfiekgpoonjaaDoorQCLC12
namespace Go.Proofs.YtjmfiekgpoonjaaDoor
open Go Go.RowKit
set_option linter.unusedVariables false
set_option linter.unusedSimpArgs false
/-- A pair of places, the later one first. -/
structure Pr (n : Nat) where
  i : Nat
  j : Nat
  hj : j < i
  hi : i < n
def rowP (n i : Nat) (hi : i < n) : (j : Nat) → j ≤ i → List (Pr n)
  | 0, _ => []
  | j + 1, h => rowP n i hi j (Nat.le_of_succ_le h) ++ [⟨i, j, h, hi⟩]
def allP (n : Nat) : (i : Nat) → i ≤ n → List (Pr n)
  | 0, _ => []
  | i + 1, h => allP n i (Nat.le_of_succ_le h) ++ rowP n i h i (Nat.le_refl _)
theorem rowP_len (n i : Nat) (hi : i < n) : ∀ j (h : j ≤ i), (rowP n i hi j h).length = j
  | 0, _ => rfl
  | j + 1, h => by rw [rowP, List.length_append, rowP_len n i hi j]; rfl
theorem allP_len (n : Nat) : ∀ i (h : i ≤ n), (allP n i h).length ≤ i * n
  | 0, _ => Nat.zero_le _
  | i + 1, h => by
    rw [allP, List.length_append, rowP_len, Nat.add_mul, Nat.one_mul]
    have := allP_len n i (Nat.le_of_succ_le h)
    omega
/-- One pair more is asked. -/
def stP {n : Nat} (L : List Wt) (ls : List (List Nat)) (p : Pr n) : List (List Nat) := if clN L p.i p.j = true then ls.set p.i (ls.getD p.i [] ++ [p.j]) else ls
def stL {n : Nat} (L : List Wt) (pre : List (Pr n)) : List (List Nat) := pre.foldl (stP L) (List.replicate n [])
theorem stL_snoc {n : Nat} (L : List Wt) (pre : List (Pr n)) (x : Pr n) : stL L (pre ++ [x]) = stP L (stL L pre) x := by unfold stL; rw [List.foldl_append]; rfl
theorem stP_len {n : Nat} (L : List Wt) (ls : List (List Nat)) (p : Pr n) : (stP L ls p).length = ls.length := by unfold stP; split <;> simp
theorem stL_len {n : Nat} (L : List Wt) : ∀ (pre : List (Pr n)), (stL L pre).length = n := by
  intro pre
  unfold stL
  suffices ∀ (pre : List (Pr n)) (ls : List (List Nat)), (pre.foldl (stP L) ls).length = ls.length by rw [this]; simp
  intro pre
  induction pre with
  | nil => intro ls; rfl
  | cons x r ih => intro ls; rw [List.foldl_cons, ih, stP_len]
def ahL (L : List Wt) (i : Nat) : List (List Nat) := (List.range i).map fun t => ahN L t t
theorem ahL_len (L : List Wt) (i : Nat) : (ahL L i).length = i := by unfold ahL; simp
theorem ahL_get (L : List Wt) {i t : Nat} (h : t < i) : (ahL L i).getD t [] = ahN L t t := by unfold ahL; simp [List.getD, h]
theorem set_mid {β : Type} (a : List β) (x y : β) (b : List β) : (a ++ x :: b).set a.length y = a ++ y :: b := by
  induction a with
  | nil => rfl
  | cons z a ih => simp [ih]
theorem get_mid {β : Type} (a : List β) (x d : β) (b : List β) : (a ++ x :: b).getD a.length d = x := by simp [List.getD]
theorem ahN_zero (L : List Wt) (i : Nat) : ahN L i 0 = [] := rfl
/-- What stands where, when the i-th was asked with the first j. -/
theorem st_at {n : Nat} (L : List Wt) : ∀ (i : Nat) (hi : i < n) (j : Nat) (hj : j ≤ i), stL L (allP n i (Nat.le_of_lt hi)) = ahL L i ++ List.replicate (n - i) [] →
    stL L (allP n i (Nat.le_of_lt hi) ++ rowP n i hi j hj) = ahL L i ++ ahN L i j :: List.replicate (n - i - 1) []
  | i, hi, 0, hj, h => by
    rw [rowP, List.append_nil, h, ahN_zero]
    congr 1
    obtain ⟨m, hm⟩ : ∃ m, n - i = m + 1 := ⟨n - i - 1, by omega⟩
    rw [hm, List.replicate_succ]; rfl
  | i, hi, j + 1, hj, h => by
    have ih := st_at L i hi j (by omega) h
    rw [rowP, ← List.append_assoc, stL_snoc, ih, stP, ahN_succ]
    show (if clN L i j = true then _ else _) = _
    split
    · have hl := ahL_len L i
      have e1 := get_mid (ahL L i) (ahN L i j) [] (List.replicate (n - i - 1) [])
      have e2 := set_mid (ahL L i) (ahN L i j) (ahN L i j ++ [j]) (List.replicate (n - i - 1) [])
      rw [hl] at e1 e2
      rw [e1, e2]
    · rfl
theorem st_all {n : Nat} (L : List Wt) : ∀ (i : Nat) (hi : i ≤ n), stL L (allP n i hi) = ahL L i ++ List.replicate (n - i) []
  | 0, hi => by simp [allP, stL, ahL]
  | i + 1, hi => by
    have h1 := st_all L i (Nat.le_of_succ_le hi)
    rw [allP, st_at L i hi i (Nat.le_refl _) h1]
    have e : ahL L (i + 1) = ahL L i ++ [ahN L i i] := by unfold ahL; rw [List.range_succ]; simp
    rw [e, List.append_assoc]
    rfl
theorem st_end {n : Nat} (L : List Wt) : stL L (allP n n (Nat.le_refl _)) = ahL L n := by rw [st_all]; simp
/-- No row is longer than its place. -/
theorem stL_row {n : Nat} (L : List Wt) : ∀ (pre : List (Pr n)) (t : Nat), ((stL L pre).getD t []).length ≤ pre.length := by
  suffices ∀ (r : List (Pr n)) (ls : List (List Nat)) (m : Nat), (∀ t, (ls.getD t []).length ≤ m) → ∀ t, ((r.foldl (stP L) ls).getD t []).length ≤ m + r.length by
    intro pre t
    have := this pre (List.replicate n []) 0 (fun t => by
      rw [List.getD, List.getElem?_replicate]; split <;> simp) t
    unfold stL; omega
  intro r
  induction r with
  | nil => intro ls m h t; exact h t
  | cons x r ih =>
    intro ls m h t
    rw [List.foldl_cons, List.length_cons]
    have := ih (stP L ls x) (m + 1) (fun t => by
      unfold stP
      split
      · by_cases e : x.i = t
        · subst e
          by_cases hl : x.i < ls.length
          · have e : (ls.set x.i (ls.getD x.i [] ++ [x.j])).getD x.i [] = ls.getD x.i [] ++ [x.j] := by simp [List.getD, hl]
            rw [e, List.length_append]; have := h x.i; exact Nat.add_le_add_right this 1
          · rw [List.set_eq_of_length_le (by omega)]; have := h x.i; omega
        · have e : (ls.set x.i (ls.getD x.i [] ++ [x.j])).getD t [] = ls.getD t [] := by simp [List.getD, List.getElem?_set_ne e]
          rw [e]; have := h t; omega
      · have := h t; omega) t
    omega
end Go.Proofs.YtjmfiekgpoonjaaDoor
