/- Clash: the pairs of places, the lists of those ahead, place by place. Plain mathematics. -/
/- Clash: the order of ranks; in which order nothing that clashes changes places. Plain mathematics. -/
import Derived.Test.YtjmfiekgpoonjaaDoorQLGC8
import Derived.Lib.Slices
namespace Go.Proofs.YtjmfiekgpoonjaaDoor
open Go Go.RowKit
set_option linter.unusedVariables false
set_option linter.unusedSimpArgs false
/-- A pair of places, the later one first. -/
structure Pr (n : Nat) where
  i : Nat
  j : Nat
  hj : j < i
  hi : i < n
def rowP (n i : Nat) (hi : i < n) : (j : Nat) → j ≤ i → List (Pr n)
  | 0, _ => []
  | j + 1, h => rowP n i hi j (Nat.le_of_succ_le h) ++ [⟨i, j, h, hi⟩]
def allP (n : Nat) : (i : Nat) → i ≤ n → List (Pr n)
  | 0, _ => []
  | i + 1, h => allP n i (Nat.le_of_succ_le h) ++ rowP n i h i (Nat.le_refl _)
theorem rowP_len (n i : Nat) (hi : i < n) : ∀ j (h : j ≤ i), (rowP n i hi j h).length = j
  | 0, _ => rfl
  | j + 1, h => by rw [rowP, List.length_append, rowP_len n i hi j]; rfl
theorem allP_len (n : Nat) : ∀ i (h : i ≤ n), (allP n i h).length ≤ i * n
  | 0, _ => Nat.zero_le _
  | i + 1, h => by
    rw [allP, List.length_append, rowP_len, Nat.add_mul, Nat.one_mul]
    have := allP_len n i (Nat.le_of_succ_le h)
    omega
/-- One pair more is asked. -/
def stP {n : Nat} (L : List Wt) (ls : List (List Nat)) (p : Pr n) : List (List Nat) := if clN L p.i p.j = true then ls.set p.i (ls.getD p.i [] ++ [p.j]) else ls
def stL {n : Nat} (L : List Wt) (pre : List (Pr n)) : List (List Nat) := pre.foldl (stP L) (List.replicate n [])
theorem stL_snoc {n : Nat} (L : List Wt) (pre : List (Pr n)) (x : Pr n) : stL L (pre ++ [x]) = stP L (stL L pre) x := by unfold stL; rw [List.foldl_append]; rfl
theorem stP_len {n : Nat} (L : List Wt) (ls : List (List Nat)) (p : Pr n) : (stP L ls p).length = ls.length := by unfold stP; split <;> simp
theorem stL_len {n : Nat} (L : List Wt) : ∀ (pre : List (Pr n)), (stL L pre).length = n := by
  intro pre
  unfold stL
  suffices ∀ (pre : List (Pr n)) (ls : List (List Nat)), (pre.foldl (stP L) ls).length = ls.length by rw [this]; simp
  intro pre
  induction pre with
  | nil => intro ls; rfl
  | cons x r ih => intro ls; rw [List.foldl_cons, ih, stP_len]
def ahL (L : List Wt) (i : Nat) : List (List Nat) := (List.range i).map fun t => ahN L t t
theorem ahL_len (L : List Wt) (i : Nat) : (ahL L i).length = i := by unfold ahL; simp
theorem ahL_get (L : List Wt) {i t : Nat} (h : t < i) : (ahL L i).getD t [] = ahN L t t := by unfold ahL; simp [List.getD, h]
theorem set_mid {β : Type} (a : List β) (x y : β) (b : List β) : (a ++ x :: b).set a.length y = a ++ y :: b := by
  induction a with
  | nil => rfl
  | cons z a ih => simp [ih]
theorem get_mid {β : Type} (a : List β) (x d : β) (b : List β) : (a ++ x :: b).getD a.length d = x := by simp [List.getD]
theorem ahN_zero (L : List Wt) (i : Nat) : ahN L i 0 = [] := rfl
/-- What stands where, when the i-th was asked with the first j. -/
theorem st_at {n : Nat} (L : List Wt) : ∀ (i : Nat) (hi : i < n) (j : Nat) (hj : j ≤ i), stL L (allP n i (Nat.le_of_lt hi)) = ahL L i ++ List.replicate (n - i) [] →
    stL L (allP n i (Nat.le_of_lt hi) ++ rowP n i hi j hj) = ahL L i ++ ahN L i j :: List.replicate (n - i - 1) []
  | i, hi, 0, hj, h => by
    rw [rowP, List.append_nil, h, ahN_zero]
    congr 1
    obtain ⟨m, hm⟩ : ∃ m, n - i = m + 1 := ⟨n - i - 1, by omega⟩
    rw [hm, List.replicate_succ]; rfl
  | i, hi, j + 1, hj, h => by
    have ih := st_at L i hi j (by omega) h
    rw [rowP, ← List.append_assoc, stL_snoc, ih, stP, ahN_succ]
    show (if clN L i j = true then _ else _) = _
    split
    · have hl := ahL_len L i
      have e1 := get_mid (ahL L i) (ahN L i j) [] (List.replicate (n - i - 1) [])
      have e2 := set_mid (ahL L i) (ahN L i j) (ahN L i j ++ [j]) (List.replicate (n - i - 1) [])
      rw [hl] at e1 e2
      rw [e1, e2]
    · rfl
theorem st_all {n : Nat} (L : List Wt) : ∀ (i : Nat) (hi : i ≤ n), stL L (allP n i hi) = ahL L i ++ List.replicate (n - i) []
  | 0, hi => by simp [allP, stL, ahL]
  | i + 1, hi => by
    have h1 := st_all L i (Nat.le_of_succ_le hi)
    rw [allP, st_at L i hi i (Nat.le_refl _) h1]
    have e : ahL L (i + 1) = ahL L i ++ [ahN L i i] := by unfold ahL; rw [List.range_succ]; simp
    rw [e, List.append_assoc]
    rfl
theorem st_end {n : Nat} (L : List Wt) : stL L (allP n n (Nat.le_refl _)) = ahL L n := by rw [st_all]; simp
/-- No row is longer than its place. -/
theorem stL_row {n : Nat} (L : List Wt) : ∀ (pre : List (Pr n)) (t : Nat), ((stL L pre).getD t []).length ≤ pre.length := by
  suffices ∀ (r : List (Pr n)) (ls : List (List Nat)) (m : Nat), (∀ t, (ls.getD t []).length ≤ m) → ∀ t, ((r.foldl (stP L) ls).getD t []).length ≤ m + r.length by
    intro pre t
    have := this pre (List.replicate n []) 0 (fun t => by
      rw [List.getD, List.getElem?_replicate]; split <;> simp) t
    unfold stL; omega
  intro r
  induction r with
  | nil => intro ls m h t; exact h t
  | cons x r ih =>
    intro ls m h t
    rw [List.foldl_cons, List.length_cons]
    have := ih (stP L ls x) (m + 1) (fun t => by
      unfold stP
      split
      · by_cases e : x.i = t
        · subst e
          by_cases hl : x.i < ls.length
          · have e : (ls.set x.i (ls.getD x.i [] ++ [x.j])).getD x.i [] = ls.getD x.i [] ++ [x.j] := by simp [List.getD, hl]
            rw [e, List.length_append]; have := h x.i; exact Nat.add_le_add_right this 1
          · rw [List.set_eq_of_length_le (by omega)]; have := h x.i; omega
        · have e : (ls.set x.i (ls.getD x.i [] ++ [x.j])).getD t [] = ls.getD t [] := by simp [List.getD, List.getElem?_set_ne e]
          rw [e]; have := h t; omega
      · have := h t; omega) t
    omega
end Go.Proofs.YtjmfiekgpoonjaaDoor
namespace Go.Proofs.YtjmfiekgpoonjaaDoor
open Go Go.RowKit
set_option linter.unusedVariables false
set_option linter.unusedSimpArgs false
open Lib in
theorem idx_in (x : Int) : ∀ (A B : List Int) (i : Nat), x ∈ A → idxFrom (A ++ B) x i = idxFrom A x i ∧ (i : Int) ≤ idxFrom A x i ∧ idxFrom A x i < i + A.length
  | [], B, i, h => by simp at h
  | z :: A, B, i, h => by
    rw [List.cons_append, idxFrom, idxFrom]
    by_cases e : z = x
    · rw [if_pos e, if_pos e, List.length_cons]
      exact ⟨rfl, Int.le_refl _, by push_cast; omega⟩
    · rw [if_neg e, if_neg e]
      have h' : x ∈ A := by
        rcases List.mem_cons.1 h with q | q
        · exact absurd q.symm e
        · exact q
      obtain ⟨h1, h2, h3⟩ := idx_in x A B (i + 1) h'
      rw [List.length_cons]
      exact ⟨h1, by push_cast at h2; omega, by push_cast at h3 ⊢; omega⟩
open Lib in
theorem idx_out (x : Int) : ∀ (A B : List Int) (i : Nat), x ∉ A → idxFrom (A ++ B) x i = idxFrom B x (i + A.length)
  | [], B, i, h => rfl
  | z :: A, B, i, h => by
    have e : z ≠ x := fun q => h (by rw [q]; exact List.mem_cons_self)
    rw [List.cons_append, idxFrom, if_neg e, idx_out x A B (i + 1) (fun q => h (List.mem_cons_of_mem _ q)), List.length_cons]
    congr 1; omega
open Lib in
theorem idx_ge (x : Int) : ∀ (A : List Int) (i : Nat), x ∈ A → (i : Int) ≤ idxFrom A x i
  | A, i, h => by have := (idx_in x A [] i h).2.1; exact this
/-- Where a place stands in an order. -/
def plc (o : List Int) (i : Nat) : Int := Lib.idxOf o (i : Int)
def wholeB (o : List Int) (n : Nat) : Bool := (List.range n).all fun i => decide (0 ≤ plc o i)
def keptB (L : List Wt) (o : List Int) (i : Nat) : Bool := (ahN L i i).all fun j => !decide (plc o i < plc o j)
def swOk (L : List Wt) (o : List Int) : Bool := decide (o.length = L.length) && wholeB o L.length
def swB (L : List Wt) (o : List Int) : Bool := swOk L o && (List.range L.length).all (keptB L o)
theorem plc_lt {o : List Int} {i j : Nat} (A B : List Int) (h : o = A ++ B) (hj : (j : Int) ∈ A) (hi : (i : Int) ∉ A) (hi2 : (i : Int) ∈ B) : plc o j < plc o i := by
  unfold plc Lib.idxOf
  rw [h]
  obtain ⟨h1, h2, h3⟩ := idx_in (j : Int) A B 0 hj
  rw [h1, idx_out (i : Int) A B 0 hi]
  have := idx_ge (i : Int) B (0 + A.length) hi2
  push_cast at this
  omega
/-- Those of one rank, the last one first. -/
def grp (r : List Nat) (n k : Nat) : List Nat := (List.range n).reverse.filter fun i => r.getD i 0 == k
def ordN (r : List Nat) (n : Nat) : Nat → List Nat
  | 0 => []
  | k + 1 => ordN r n k ++ grp r n k
theorem mem_grp {r : List Nat} {n k i : Nat} : i ∈ grp r n k ↔ i < n ∧ r.getD i 0 = k := by
  unfold grp; simp
theorem mem_ord {r : List Nat} {n i : Nat} : ∀ k, i ∈ ordN r n k ↔ i < n ∧ r.getD i 0 < k
  | 0 => by simp [ordN]
  | k + 1 => by rw [ordN, List.mem_append, mem_ord k, mem_grp]; omega
theorem ord_split (r : List Nat) (n : Nat) : ∀ (d k : Nat), ∃ B, ordN r n (k + d) = ordN r n k ++ B ∧ ∀ i, i ∈ B ↔ i < n ∧ k ≤ r.getD i 0 ∧ r.getD i 0 < k + d
  | 0, k => ⟨[], by simp, by intro i; simp⟩
  | d + 1, k => by
    obtain ⟨B, h1, h2⟩ := ord_split r n d k
    refine ⟨B ++ grp r n (k + d), ?_, ?_⟩
    · rw [← Nat.add_assoc, ordN, h1, List.append_assoc]
    · intro i
      rw [List.mem_append, h2 i, mem_grp]; omega
theorem filt_sum (l : List Nat) (f : Nat → Nat) (k : Nat) : (l.filter fun i => decide (f i < k + 1)).length = (l.filter fun i => decide (f i < k)).length + (l.filter fun i => f i == k).length := by
  induction l with
  | nil => rfl
  | cons x l ih =>
    simp only [List.filter_cons]
    by_cases h1 : f x < k
    · have h2 : f x < k + 1 := by omega
      have h3 : ¬ f x = k := by omega
      simp [h1, h2, h3] at ih ⊢; omega
    · by_cases h3 : f x = k
      · have h2 : f x < k + 1 := by omega
        simp [h1, h2, h3] at ih ⊢; omega
      · have h2 : ¬ f x < k + 1 := by omega
        simp [h1, h2, h3] at ih ⊢; omega
theorem ord_len (r : List Nat) (n : Nat) : ∀ k, (ordN r n k).length = ((List.range n).reverse.filter fun i => decide (r.getD i 0 < k)).length
  | 0 => by simp only [ordN, Nat.not_lt_zero, decide_false, List.length_nil]; generalize (List.range n).reverse = l; induction l with
    | nil => rfl
    | cons x l ih => exact ih
  | k + 1 => by rw [ordN, List.length_append, ord_len r n k, filt_sum]; rfl
def ordI (L : List Wt) : List Int := (ordN (rkN L L.length) L.length L.length).map fun (i : Nat) => (i : Int)
theorem ordI_len (L : List Wt) : (ordI L).length = L.length := by
  unfold ordI
  rw [List.length_map, ord_len]
  have : ((List.range L.length).reverse.filter fun i => decide ((rkN L L.length).getD i 0 < L.length)) = (List.range L.length).reverse := by
    rw [List.filter_eq_self]
    intro i hi
    have hi' : i < L.length := by simpa using hi
    have := rkN_le L L.length i hi'
    simp only [decide_eq_true_eq]; omega
  rw [this]; simp
theorem mem_map_nat {l : List Nat} {i : Nat} : ((i : Int) ∈ l.map fun (i : Nat) => (i : Int)) ↔ i ∈ l := by
  rw [List.mem_map]
  exact ⟨fun ⟨a, ha, e⟩ => by rwa [show i = a by omega], fun h => ⟨i, h, rfl⟩⟩
/-- In the order of ranks nothing that clashes changes places. -/
theorem ord_ok (L : List Wt) : swB L (ordI L) = true := by
  unfold swB swOk
  rw [Bool.and_eq_true, Bool.and_eq_true]
  refine ⟨⟨by rw [decide_eq_true_eq]; exact ordI_len L, ?_⟩, ?_⟩
  · unfold wholeB
    rw [List.all_eq_true]
    intro i hi
    have hi' : i < L.length := List.mem_range.1 hi
    rw [decide_eq_true_eq]
    have hm : (i : Int) ∈ ordI L := by
      unfold ordI; rw [mem_map_nat, mem_ord]
      have := rkN_le L L.length i hi'
      omega
    have := idx_ge (i : Int) (ordI L) 0 hm
    unfold plc Lib.idxOf; simpa using this
  · rw [List.all_eq_true]
    intro i hi
    have hi' : i < L.length := List.mem_range.1 hi
    unfold keptB
    rw [List.all_eq_true]
    intro j hj
    have hji := ahN_lt hj
    have hc : clN L i j = true := by unfold ahN at hj; exact (List.mem_filter.1 hj).2
    have hr := rkN_lt (n := L.length) hi' hji hc
    have hri := rkN_le L L.length i hi'
    obtain ⟨B, h1, h2⟩ := ord_split (rkN L L.length) L.length (L.length - (rkN L L.length).getD i 0) ((rkN L L.length).getD i 0)
    rw [show (rkN L L.length).getD i 0 + (L.length - (rkN L L.length).getD i 0) = L.length by omega] at h1 h2
    have := plc_lt (o := ordI L) (i := i) (j := j) ((ordN (rkN L L.length) L.length ((rkN L L.length).getD i 0)).map fun (i : Nat) => (i : Int)) (B.map fun (i : Nat) => (i : Int)) (by unfold ordI; rw [h1, List.map_append])
      (by rw [mem_map_nat, mem_ord]; omega) (by rw [mem_map_nat, mem_ord]; omega) (by rw [mem_map_nat, h2]; omega)
    simp only [Bool.not_eq_true', decide_eq_false_iff_not]; omega
/-- Those of one rank do not clash. -/
theorem rank_apart {L : List Wt} {i k : Nat} (hi : i < L.length) (hk : k < i) (h : (rkN L L.length).getD k 0 = (rkN L L.length).getD i 0) : clN L i k = false := by
  cases hc : clN L i k with
  | false => rfl
  | true => have := rkN_lt (n := L.length) hi hk hc; omega
end Go.Proofs.YtjmfiekgpoonjaaDoor
