/- Clash: the mathematics. It speaks of no program in particular. -/
import Derived.Test.YtjmfiekgpoonjaaDoorQLGC4
namespace Go.Proofs.YtjmfiekgpoonjaaDoor
open Go Go.RowKit
set_option linter.unusedVariables false
set_option linter.unusedSimpArgs false
/-- A want: what is read, what is written. -/
structure Wt where
  r : List (List UInt8)
  w : List (List UInt8)
/-- Do two patterns meet? -/
def mtB (p q : List UInt8) : Bool := patB p && patB q && (Lib.hasPrefix p q || Lib.hasPrefix q p)
def someB (l m : List (List UInt8)) : Bool := l.any fun p => m.any fun q => mtB p q
def clB (a b : Wt) : Bool := someB a.w b.w || someB a.w b.r || someB a.r b.w
def mayW (a : Wt) : Bool := a.r.all patB && a.w.all patB
def pairW (a b : Wt) : Bool := mayW a && mayW b && clB a b
/-- The document's, which does not ask again whether they are patterns. -/
def mtR (p q : List UInt8) : Bool := Lib.hasPrefix p q || Lib.hasPrefix q p
def someR (l m : List (List UInt8)) : Bool := l.any fun p => m.any fun q => mtR p q
def clR (a b : Wt) : Bool := someR a.w b.w || someR a.w b.r || someR a.r b.w
def pairR (a b : Wt) : Bool := mayW a && mayW b && clR a b
theorem mtB_comm (p q : List UInt8) : mtB p q = mtB q p := by
  unfold mtB; cases patB p <;> cases patB q <;> cases Lib.hasPrefix p q <;> cases Lib.hasPrefix q p <;> rfl
theorem any_swap {α β : Type} (f : α → β → Bool) (l : List α) (m : List β) : (l.any fun p => m.any fun q => f p q) = (m.any fun q => l.any fun p => f p q) := by
  rw [Bool.eq_iff_iff]
  simp only [List.any_eq_true]
  exact ⟨fun ⟨p, hp, q, hq, h⟩ => ⟨q, hq, p, hp, h⟩, fun ⟨q, hq, p, hp, h⟩ => ⟨p, hp, q, hq, h⟩⟩
theorem someB_comm (l m : List (List UInt8)) : someB l m = someB m l := by
  unfold someB
  rw [any_swap]
  congr 1; funext q; congr 1; funext p; exact mtB_comm p q
theorem clB_comm (a b : Wt) : clB a b = clB b a := by
  unfold clB
  rw [someB_comm a.w b.w, someB_comm a.w b.r, someB_comm a.r b.w]
  cases someB b.w a.w <;> cases someB b.r a.w <;> cases someB b.w a.r <;> rfl
theorem pairW_comm (a b : Wt) : pairW a b = pairW b a := by
  unfold pairW
  rw [clB_comm a b]
  cases mayW a <;> cases mayW b <;> rfl
theorem mtR_of {p q : List UInt8} (hp : patB p = true) (hq : patB q = true) : mtR p q = mtB p q := by unfold mtB mtR; rw [hp, hq]; rfl
theorem someR_of {l m : List (List UInt8)} (hl : l.all patB = true) (hm : m.all patB = true) : someR l m = someB l m := by
  unfold someR someB
  rw [List.all_eq_true] at hl hm
  rw [Bool.eq_iff_iff]
  simp only [List.any_eq_true]
  exact ⟨fun ⟨p, hp, q, hq, h⟩ => ⟨p, hp, q, hq, by rw [← mtR_of (hl p hp) (hm q hq)]; exact h⟩, fun ⟨p, hp, q, hq, h⟩ => ⟨p, hp, q, hq, by rw [mtR_of (hl p hp) (hm q hq)]; exact h⟩⟩
theorem mayW_iff {a : Wt} : mayW a = true ↔ a.r.all patB = true ∧ a.w.all patB = true := by unfold mayW; rw [Bool.and_eq_true]
theorem pairR_eq (a b : Wt) : pairR a b = pairW a b := by
  unfold pairR pairW
  cases ha : mayW a with
  | false => rfl
  | true =>
    cases hb : mayW b with
    | false => rfl
    | true =>
      have h1 := mayW_iff.1 ha
      have h2 := mayW_iff.1 hb
      unfold clR clB
      rw [someR_of h1.2 h2.2, someR_of h1.2 h2.1, someR_of h1.1 h2.2]
/-- Those ahead of the n-th with which it clashes. -/
def wt0 : Wt := ⟨[], []⟩
def clN (L : List Wt) (i j : Nat) : Bool := clB (L.getD i wt0) (L.getD j wt0)
def ahN (L : List Wt) (n k : Nat) : List Nat := (List.range k).filter fun j => clN L n j
theorem ahN_succ (L : List Wt) (n k : Nat) : ahN L n (k + 1) = if clN L n k = true then ahN L n k ++ [k] else ahN L n k := by
  unfold ahN
  rw [List.range_succ, List.filter_append]
  by_cases h : clN L n k = true
  · simp [h]
  · simp [h]
theorem ahN_lt {L : List Wt} {n k j : Nat} (h : j ∈ ahN L n k) : j < k := by
  unfold ahN at h
  have := (List.mem_filter.1 h).1
  exact List.mem_range.1 this
theorem ahN_len (L : List Wt) (n k : Nat) : (ahN L n k).length ≤ k := by
  unfold ahN
  have := List.length_filter_le (fun j => clN L n j) (List.range k)
  simpa using this
theorem ahN_more (L : List Wt) (n : Nat) : ∀ d k, ∃ r, ahN L n (k + d) = ahN L n k ++ r
  | 0, k => ⟨[], by simp⟩
  | d + 1, k => by
    obtain ⟨r, hr⟩ := ahN_more L n d k
    rw [← Nat.add_assoc, ahN_succ, hr]
    split
    · exact ⟨r ++ [k + d], by simp⟩
    · exact ⟨r, rfl⟩
/-- Where the n-th's clash with k stands among those ahead of it. -/
theorem ahN_at {L : List Wt} {n k m : Nat} (hk : k < m) (h : clN L n k = true) : (ahN L n m)[(ahN L n k).length]? = some k := by
  obtain ⟨r, hr⟩ := ahN_more L n (m - (k + 1)) (k + 1)
  rw [show k + 1 + (m - (k + 1)) = m by omega] at hr
  rw [hr, ahN_succ, if_pos h]
  simp
theorem ahN_len_le (L : List Wt) (n : Nat) {k m : Nat} (h : k ≤ m) : (ahN L n k).length ≤ (ahN L n m).length := by
  obtain ⟨r, hr⟩ := ahN_more L n (m - k) k
  rw [show k + (m - k) = m by omega] at hr
  rw [hr]; simp
/-- The ranks of the first n. -/
def rkOf (R : List Nat) (l : List Nat) : Nat := l.foldl (fun m j => max m (R.getD j 0 + 1)) 0
def rkN (L : List Wt) : Nat → List Nat
  | 0 => []
  | n + 1 => rkN L n ++ [rkOf (rkN L n) (ahN L n n)]
theorem rkN_len (L : List Wt) : ∀ n, (rkN L n).length = n
  | 0 => rfl
  | n + 1 => by rw [rkN, List.length_append, rkN_len L n]; rfl
theorem rkN_get (L : List Wt) : ∀ n i, i < n → (rkN L n).getD i 0 = rkOf (rkN L i) (ahN L i i)
  | n + 1, i, h => by
    rw [rkN, List.getD_eq_getElem?_getD]
    by_cases hi : i < n
    · rw [List.getElem?_append_left (by rw [rkN_len]; exact hi), ← List.getD_eq_getElem?_getD]
      exact rkN_get L n i hi
    · obtain rfl : i = n := by omega
      rw [List.getElem?_append_right (by rw [rkN_len]; exact Nat.le_refl _), rkN_len]
      simp
theorem rkOf_snoc (R l : List Nat) (j : Nat) : rkOf R (l ++ [j]) = max (rkOf R l) (R.getD j 0 + 1) := by unfold rkOf; rw [List.foldl_append]; rfl
theorem fold_ge (R : List Nat) : ∀ (l : List Nat) (a j : Nat), j ∈ l → R.getD j 0 + 1 ≤ l.foldl (fun m j => max m (R.getD j 0 + 1)) a
  | x :: l, a, j, h => by
    rw [List.foldl_cons]
    rcases List.mem_cons.1 h with rfl | h
    · exact Nat.le_trans (Nat.le_max_right _ _) (fold_le R l _)
    · exact fold_ge R l _ j h
where fold_le (R : List Nat) : ∀ (l : List Nat) (a : Nat), a ≤ l.foldl (fun m j => max m (R.getD j 0 + 1)) a
  | [], a => Nat.le_refl _
  | x :: l, a => by rw [List.foldl_cons]; exact Nat.le_trans (Nat.le_max_left _ _) (fold_le R l _)
theorem rkOf_ge {R l : List Nat} {j : Nat} (h : j ∈ l) : R.getD j 0 + 1 ≤ rkOf R l := fold_ge R l 0 j h
theorem fold_up (R : List Nat) (b : Nat) : ∀ (l : List Nat) (a : Nat), a ≤ b → (∀ j ∈ l, R.getD j 0 + 1 ≤ b) → l.foldl (fun m j => max m (R.getD j 0 + 1)) a ≤ b
  | [], a, h, _ => h
  | x :: l, a, h, hl => by
    rw [List.foldl_cons]
    exact fold_up R b l _ (Nat.max_le.2 ⟨h, hl x (List.mem_cons_self ..)⟩) (fun j hj => hl j (List.mem_cons_of_mem _ hj))
/-- A rank is no greater than the place. -/
theorem rkN_le (L : List Wt) : ∀ n i, i < n → (rkN L n).getD i 0 ≤ i := by
  intro n
  induction n with
  | zero => intro i h; omega
  | succ n ih =>
    intro i h
    rw [rkN_get L (n + 1) i h]
    refine fold_up _ _ _ _ (Nat.zero_le _) (fun j hj => ?_)
    have hji := ahN_lt hj
    by_cases hi : i < n
    · have e := rkN_get L i j hji
      rw [e, ← rkN_get L n j (by omega)]
      have := ih j (by omega); omega
    · obtain rfl : i = n := by omega
      have := ih j hji; omega
theorem rkN_lt {L : List Wt} {n i j : Nat} (hi : i < n) (hj : j < i) (h : clN L i j = true) : (rkN L n).getD j 0 < (rkN L n).getD i 0 := by
  rw [rkN_get L n i hi, rkN_get L n j (by omega)]
  have := rkOf_ge (R := rkN L i) (l := ahN L i i) (j := j) (by unfold ahN; exact List.mem_filter.2 ⟨List.mem_range.2 hj, h⟩)
  rw [rkN_get L i j hj] at this
  omega
end Go.Proofs.YtjmfiekgpoonjaaDoor
