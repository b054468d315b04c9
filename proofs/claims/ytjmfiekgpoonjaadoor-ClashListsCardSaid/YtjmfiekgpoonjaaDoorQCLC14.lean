/- Clash: the order of ranks; in which order nothing that clashes changes places. Plain mathematics. -/
import Derived.Test.YtjmfiekgpoonjaaDoorQCLC13
import Derived.Lib.Slices
namespace Go.Proofs.YtjmfiekgpoonjaaDoor
open Go Go.RowKit
set_option linter.unusedVariables false
set_option linter.unusedSimpArgs false
open Lib in
theorem idx_in (x : Int) : ∀ (A B : List Int) (i : Nat), x ∈ A → idxFrom (A ++ B) x i = idxFrom A x i ∧ (i : Int) ≤ idxFrom A x i ∧ idxFrom A x i < i + A.length
  | [], B, i, h => by simp at h
  | z :: A, B, i, h => by
    rw [List.cons_append, idxFrom, idxFrom]
    by_cases e : z = x
    · rw [if_pos e, if_pos e, List.length_cons]
      exact ⟨rfl, Int.le_refl _, by push_cast; omega⟩
    · rw [if_neg e, if_neg e]
      have h' : x ∈ A := by
        rcases List.mem_cons.1 h with q | q
        · exact absurd q.symm e
        · exact q
      obtain ⟨h1, h2, h3⟩ := idx_in x A B (i + 1) h'
      rw [List.length_cons]
      exact ⟨h1, by push_cast at h2; omega, by push_cast at h3 ⊢; omega⟩
open Lib in
theorem idx_out (x : Int) : ∀ (A B : List Int) (i : Nat), x ∉ A → idxFrom (A ++ B) x i = idxFrom B x (i + A.length)
  | [], B, i, h => rfl
  | z :: A, B, i, h => by
    have e : z ≠ x := fun q => h (by rw [q]; exact List.mem_cons_self)
    rw [List.cons_append, idxFrom, if_neg e, idx_out x A B (i + 1) (fun q => h (List.mem_cons_of_mem _ q)), List.length_cons]
    congr 1; omega
open Lib in
theorem idx_ge (x : Int) : ∀ (A : List Int) (i : Nat), x ∈ A → (i : Int) ≤ idxFrom A x i
  | A, i, h => by have := (idx_in x A [] i h).2.1; exact this
/-- Where a place stands in an order. -/
def plc (o : List Int) (i : Nat) : Int := Lib.idxOf o (i : Int)
def wholeB (o : List Int) (n : Nat) : Bool := (List.range n).all fun i => decide (0 ≤ plc o i)
def keptB (L : List Wt) (o : List Int) (i : Nat) : Bool := (ahN L i i).all fun j => !decide (plc o i < plc o j)
def swOk (L : List Wt) (o : List Int) : Bool := decide (o.length = L.length) && wholeB o L.length
def swB (L : List Wt) (o : List Int) : Bool := swOk L o && (List.range L.length).all (keptB L o)
theorem plc_lt {o : List Int} {i j : Nat} (A B : List Int) (h : o = A ++ B) (hj : (j : Int) ∈ A) (hi : (i : Int) ∉ A) (hi2 : (i : Int) ∈ B) : plc o j < plc o i := by
  unfold plc Lib.idxOf
  rw [h]
  obtain ⟨h1, h2, h3⟩ := idx_in (j : Int) A B 0 hj
  rw [h1, idx_out (i : Int) A B 0 hi]
  have := idx_ge (i : Int) B (0 + A.length) hi2
  push_cast at this
  omega
/-- Those of one rank, the last one first. -/
def grp (r : List Nat) (n k : Nat) : List Nat := (List.range n).reverse.filter fun i => r.getD i 0 == k
def ordN (r : List Nat) (n : Nat) : Nat → List Nat
  | 0 => []
  | k + 1 => ordN r n k ++ grp r n k
theorem mem_grp {r : List Nat} {n k i : Nat} : i ∈ grp r n k ↔ i < n ∧ r.getD i 0 = k := by
  unfold grp; simp
theorem mem_ord {r : List Nat} {n i : Nat} : ∀ k, i ∈ ordN r n k ↔ i < n ∧ r.getD i 0 < k
  | 0 => by simp [ordN]
  | k + 1 => by rw [ordN, List.mem_append, mem_ord k, mem_grp]; omega
theorem ord_split (r : List Nat) (n : Nat) : ∀ (d k : Nat), ∃ B, ordN r n (k + d) = ordN r n k ++ B ∧ ∀ i, i ∈ B ↔ i < n ∧ k ≤ r.getD i 0 ∧ r.getD i 0 < k + d
  | 0, k => ⟨[], by simp, by intro i; simp⟩
  | d + 1, k => by
    obtain ⟨B, h1, h2⟩ := ord_split r n d k
    refine ⟨B ++ grp r n (k + d), ?_, ?_⟩
    · rw [← Nat.add_assoc, ordN, h1, List.append_assoc]
    · intro i
      rw [List.mem_append, h2 i, mem_grp]; omega
theorem filt_sum (l : List Nat) (f : Nat → Nat) (k : Nat) : (l.filter fun i => decide (f i < k + 1)).length = (l.filter fun i => decide (f i < k)).length + (l.filter fun i => f i == k).length := by
  induction l with
  | nil => rfl
  | cons x l ih =>
    simp only [List.filter_cons]
    by_cases h1 : f x < k
    · have h2 : f x < k + 1 := by omega
      have h3 : ¬ f x = k := by omega
      simp [h1, h2, h3] at ih ⊢; omega
    · by_cases h3 : f x = k
      · have h2 : f x < k + 1 := by omega
        simp [h1, h2, h3] at ih ⊢; omega
      · have h2 : ¬ f x < k + 1 := by omega
        simp [h1, h2, h3] at ih ⊢; omega
theorem ord_len (r : List Nat) (n : Nat) : ∀ k, (ordN r n k).length = ((List.range n).reverse.filter fun i => decide (r.getD i 0 < k)).length
  | 0 => by simp only [ordN, Nat.not_lt_zero, decide_false, List.length_nil]; generalize (List.range n).reverse = l; induction l with
    | nil => rfl
    | cons x l ih => exact ih
  | k + 1 => by rw [ordN, List.length_append, ord_len r n k, filt_sum]; rfl
def ordI (L : List Wt) : List Int := (ordN (rkN L L.length) L.length L.length).map fun (i : Nat) => (i : Int)
theorem ordI_len (L : List Wt) : (ordI L).length = L.length := by
  unfold ordI
  rw [List.length_map, ord_len]
  have : ((List.range L.length).reverse.filter fun i => decide ((rkN L L.length).getD i 0 < L.length)) = (List.range L.length).reverse := by
    rw [List.filter_eq_self]
    intro i hi
    have hi' : i < L.length := by simpa using hi
    have := rkN_le L L.length i hi'
    simp only [decide_eq_true_eq]; omega
  rw [this]; simp
theorem mem_map_nat {l : List Nat} {i : Nat} : ((i : Int) ∈ l.map fun (i : Nat) => (i : Int)) ↔ i ∈ l := by
  rw [List.mem_map]
  exact ⟨fun ⟨a, ha, e⟩ => by rwa [show i = a by omega], fun h => ⟨i, h, rfl⟩⟩
/-- In the order of ranks nothing that clashes changes places. -/
theorem ord_ok (L : List Wt) : swB L (ordI L) = true := by
  unfold swB swOk
  rw [Bool.and_eq_true, Bool.and_eq_true]
  refine ⟨⟨by rw [decide_eq_true_eq]; exact ordI_len L, ?_⟩, ?_⟩
  · unfold wholeB
    rw [List.all_eq_true]
    intro i hi
    have hi' : i < L.length := List.mem_range.1 hi
    rw [decide_eq_true_eq]
    have hm : (i : Int) ∈ ordI L := by
      unfold ordI; rw [mem_map_nat, mem_ord]
      have := rkN_le L L.length i hi'
      omega
    have := idx_ge (i : Int) (ordI L) 0 hm
    unfold plc Lib.idxOf; simpa using this
  · rw [List.all_eq_true]
    intro i hi
    have hi' : i < L.length := List.mem_range.1 hi
    unfold keptB
    rw [List.all_eq_true]
    intro j hj
    have hji := ahN_lt hj
    have hc : clN L i j = true := by unfold ahN at hj; exact (List.mem_filter.1 hj).2
    have hr := rkN_lt (n := L.length) hi' hji hc
    have hri := rkN_le L L.length i hi'
    obtain ⟨B, h1, h2⟩ := ord_split (rkN L L.length) L.length (L.length - (rkN L L.length).getD i 0) ((rkN L L.length).getD i 0)
    rw [show (rkN L L.length).getD i 0 + (L.length - (rkN L L.length).getD i 0) = L.length by omega] at h1 h2
    have := plc_lt (o := ordI L) (i := i) (j := j) ((ordN (rkN L L.length) L.length ((rkN L L.length).getD i 0)).map fun (i : Nat) => (i : Int)) (B.map fun (i : Nat) => (i : Int)) (by unfold ordI; rw [h1, List.map_append])
      (by rw [mem_map_nat, mem_ord]; omega) (by rw [mem_map_nat, mem_ord]; omega) (by rw [mem_map_nat, h2]; omega)
    simp only [Bool.not_eq_true', decide_eq_false_iff_not]; omega
/-- Those of one rank do not clash. -/
theorem rank_apart {L : List Wt} {i k : Nat} (hi : i < L.length) (hk : k < i) (h : (rkN L L.length).getD k 0 = (rkN L L.length).getD i 0) : clN L i k = false := by
  cases hc : clN L i k with
  | false => rfl
  | true => have := rkN_lt (n := L.length) hi hk hc; omega
end Go.Proofs.YtjmfiekgpoonjaaDoor
