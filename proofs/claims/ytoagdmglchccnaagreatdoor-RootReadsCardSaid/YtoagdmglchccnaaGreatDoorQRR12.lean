/- Leaves: items, which lists are leaves, what is put, deleted, got. Plain mathematics. -/
import Derived.Test.YtoagdmglchccnaaGreatDoorQRR11
namespace Go.Proofs.YtoagdmglchccnaaGreatDoor
open Go Go.RowKit
set_option linter.unusedVariables false
set_option linter.unusedSimpArgs false
set_option linter.unusedSectionVars false
structure It where
  key : List UInt8
  v : V7.V
  ver : Int
def It.Wf (x : It) : Prop := x.key.length ≤ maxLen ∧ x.v.s.length ≤ maxLen ∧ x.v.Wf ∧ (-9223372036854775808 ≤ x.ver ∧ x.ver ≤ 9223372036854775807)
def mayI (x : It) : Bool := isB x.key && (V7.mayB x.v && (decide (x.v.k ≠ 0) && (decide (0 ≤ x.ver) && decide (x.ver ≤ 2147483647))))
/-- What is wrong with a list behind a key, and where. -/
def chkGo : Option (List UInt8) → Nat → List It → Nat × Nat
  | _, _, [] => (0, 0)
  | p, i, x :: r => if mayI x = false then (1, i) else if (match p with | none => false | some q => !ltB q x.key) = true then (3, i) else chkGo (some x.key) (i + 1) r
def chkL (l : List It) : Nat × Nat := if 64 < l.length then (5, 64) else chkGo none 0 l
def prevK (l : List It) (i : Nat) : Option (List UInt8) := if i = 0 then none else (l[i - 1]?).map It.key
theorem chk_end (l : List It) (i : Nat) (h : l.length ≤ i) : chkGo (prevK l i) i (l.drop i) = (0, 0) := by
  rw [List.drop_of_length_le h]; rfl
theorem chk_may (l : List It) (i : Nat) (h : i < l.length) (hm : mayI l[i] = false) : chkGo (prevK l i) i (l.drop i) = (1, i) := by
  rw [List.drop_eq_getElem_cons h]; unfold chkGo; rw [if_pos hm]
theorem prev_succ (l : List It) (i : Nat) (h : i < l.length) : prevK l (i + 1) = some l[i].key := by
  unfold prevK; simp [h]
theorem chk_ord (l : List It) (i : Nat) (h : i + 1 < l.length) (hm : mayI l[i + 1] = true) (ho : ltB l[i].key l[i + 1].key = false) : chkGo (prevK l (i + 1)) (i + 1) (l.drop (i + 1)) = (3, i + 1) := by
  rw [List.drop_eq_getElem_cons h, prev_succ l i (by omega)]; unfold chkGo; rw [if_neg (by simp [hm]), if_pos (by simp [ho])]
theorem chk_next0 (l : List It) (h : 0 < l.length) (hm : mayI l[0] = true) : chkGo (prevK l 0) 0 (l.drop 0) = chkGo (prevK l 1) 1 (l.drop 1) := by
  rw [List.drop_eq_getElem_cons h, prev_succ l 0 h]; conv => lhs; unfold chkGo
  rw [if_neg (by simp [hm])]; simp [prevK]
theorem chk_next (l : List It) (i : Nat) (h : i + 1 < l.length) (hm : mayI l[i + 1] = true) (ho : ltB l[i].key l[i + 1].key = true) : chkGo (prevK l (i + 1)) (i + 1) (l.drop (i + 1)) = chkGo (prevK l (i + 2)) (i + 2) (l.drop (i + 2)) := by
  rw [List.drop_eq_getElem_cons h, prev_succ l i (by omega), prev_succ l (i + 1) h]; conv => lhs; unfold chkGo
  rw [if_neg (by simp [hm]), if_neg (by simp [ho])]
theorem chk_start (l : List It) (h : l.length ≤ 64) : chkL l = chkGo (prevK l 0) 0 (l.drop 0) := by
  unfold chkL; rw [if_neg (by omega)]; rfl
theorem chk_big (l : List It) (h : 64 < l.length) : chkL l = (5, 64) := by unfold chkL; rw [if_pos h]
/-- Is it a leaf? -/
def isL (l : List It) : Bool := (chkL l).1 == 0
theorem chkGo_zero : ∀ (l : List It) (p : Option (List UInt8)) (i : Nat), (chkGo p i l).1 = 0 ↔ ((∀ x ∈ l, mayI x = true) ∧ (∀ q, p = some q → ∀ x ∈ l.head?, ltB q x.key = true) ∧ l.Pairwise (fun a b => ltB a.key b.key = true))
  | [], p, i => by simp [chkGo]
  | x :: r, p, i => by
    unfold chkGo
    cases hm : mayI x with
    | false => simp [hm]
    | true =>
      rw [if_neg (by simp)]
      have ih := chkGo_zero r (some x.key) (i + 1)
      have tail : ((∀ y ∈ r, mayI y = true) ∧ (∀ q, some x.key = some q → ∀ y ∈ r.head?, ltB q y.key = true) ∧ r.Pairwise (fun a b => ltB a.key b.key = true)) ↔ ((∀ y ∈ r, mayI y = true) ∧ (x :: r).Pairwise (fun a b => ltB a.key b.key = true)) := by
        rw [List.pairwise_cons]
        constructor
        · rintro ⟨h1, h2, h3⟩
          refine ⟨h1, ?_, h3⟩
          intro y hy
          cases r with
          | nil => simp at hy
          | cons z r =>
            have h4 := h2 _ rfl z (by simp)
            rcases List.mem_cons.1 hy with rfl | hy
            · exact h4
            · exact lt_trans h4 ((List.pairwise_cons.1 h3).1 y hy)
        · rintro ⟨h1, h2, h3⟩
          refine ⟨h1, ?_, h3⟩
          rintro q hq y hy
          cases hq
          exact h2 y (List.mem_of_mem_head? hy)
      cases p with
      | none =>
        rw [if_neg (by simp), ih, tail]
        simp [hm]
      | some q =>
        cases ho : ltB q x.key with
        | false => simp [ho]
        | true =>
          rw [if_neg (by simp [ho]), ih, tail]
          simp [hm, ho]
theorem isL_iff (l : List It) : isL l = true ↔ (l.length ≤ 64 ∧ (∀ x ∈ l, mayI x = true) ∧ l.Pairwise (fun a b => ltB a.key b.key = true)) := by
  unfold isL
  rw [beq_iff_eq]
  by_cases h : 64 < l.length
  · rw [chk_big l h]; simp; omega
  · unfold chkL
    rw [if_neg h, chkGo_zero]
    simp; omega
theorem isL_len {l : List It} (h : isL l = true) : l.length ≤ 64 := ((isL_iff l).1 h).1
theorem isL_may {l : List It} (h : isL l = true) : ∀ x ∈ l, mayI x = true := ((isL_iff l).1 h).2.1
theorem isL_sorted {l : List It} (h : isL l = true) : l.Pairwise (fun a b => ltB a.key b.key = true) := ((isL_iff l).1 h).2.2
theorem ltB_self (a : List UInt8) : ltB a a = false := by unfold ltB; rw [cb_self]; rfl
theorem ltB_tri {a b : List UInt8} (h1 : ltB a b = false) (h2 : ltB b a = false) : a = b := by
  unfold ltB at *
  simp only [decide_eq_false_iff_not] at *
  have := cb_flip a b
  exact cb_zero a b (by omega)
theorem ltB_ne {a b : List UInt8} (h : ltB a b = true) : a ≠ b := by rintro rfl; rw [ltB_self] at h; cases h
/-- Where a key stands, or would. -/
def posL (l : List It) (k : List UInt8) : Nat := (l.takeWhile (fun x => ltB x.key k)).length
def atL (l : List It) (k : List UInt8) : Option It := l.find? (fun x => decide (x.key = k))
def withoutL (l : List It) (k : List UInt8) : List It := l.filter (fun x => decide (x.key ≠ k))
def withL (l : List It) (x : It) : List It := l.filter (fun y => ltB y.key x.key) ++ x :: l.filter (fun y => ltB x.key y.key)
theorem posL_le (l : List It) (k : List UInt8) : posL l k ≤ l.length := by unfold posL; exact (List.takeWhile_prefix _).length_le
theorem posL_below (l : List It) (k : List UInt8) (i : Nat) (h : i < posL l k) (hi : i < l.length) : ltB l[i].key k = true := by
  unfold posL at h
  have h1 := (List.takeWhile_prefix (l := l) (fun x => ltB x.key k)).getElem h
  have h2 := List.all_eq_true.1 (List.all_takeWhile (l := l) (p := fun x => ltB x.key k)) _ (List.getElem_mem h)
  rw [h1] at h2
  exact h2
theorem sorted_at {l : List It} (hs : l.Pairwise (fun a b => ltB a.key b.key = true)) {i j : Nat} (hij : i < j) (hj : j < l.length) : ltB (l[i]'(by omega)).key l[j].key = true :=
  List.pairwise_iff_getElem.1 hs i j (by omega) hj hij
theorem filter_all {l : List It} {f : It → Bool} (h : ∀ x ∈ l, f x = true) : l.filter f = l := List.filter_eq_self.2 h
theorem filter_none {l : List It} {f : It → Bool} (h : ∀ x ∈ l, f x = false) : l.filter f = [] := List.filter_eq_nil_iff.2 (fun x hx => by simp [h x hx])
section
variable {l : List It} {k : List UInt8} (hs : l.Pairwise (fun a b => ltB a.key b.key = true))
include hs
theorem below_pos {i : Nat} (hi : i < l.length) (h : posL l k ≤ i) : ltB l[i].key k = false := by
  by_cases hp : posL l k < l.length
  · have h0 : ltB (l[posL l k]).key k = false := by
      cases hc : ltB (l[posL l k]).key k with
      | false => rfl
      | true =>
        exfalso
        have e : l = l.take (posL l k) ++ l.drop (posL l k) := (List.take_append_drop _ l).symm
        have hall : ∀ x ∈ l.take (posL l k), ltB x.key k = true := by
          intro x hx
          obtain ⟨i, hi, rfl⟩ := List.getElem_of_mem hx
          rw [List.length_take] at hi
          rw [List.getElem_take]
          exact posL_below l k i (by omega) (by omega)
        have h1 : posL l k = (l.takeWhile (fun x => ltB x.key k)).length := rfl
        have h2 : (l.takeWhile (fun x => ltB x.key k)) = l.take (posL l k) ++ (l.drop (posL l k)).takeWhile (fun x => ltB x.key k) := by
          conv => lhs; rw [e]
          rw [List.takeWhile_append_of_pos hall]
        rw [List.drop_eq_getElem_cons hp, List.takeWhile_cons, if_pos hc] at h2
        have h3 := congrArg List.length h2
        simp only [List.length_append, List.length_take, List.length_cons] at h3
        omega
    rcases Nat.lt_or_eq_of_le h with h1 | h1
    · have h2 := sorted_at hs h1 hi
      cases hc : ltB l[i].key k with
      | false => rfl
      | true => have := lt_trans h2 hc; rw [h0] at this; cases this
    · subst h1; exact h0
  · omega
theorem take_pos : l.take (posL l k) = l.filter (fun x => ltB x.key k) := by
  have e : l = l.take (posL l k) ++ l.drop (posL l k) := (List.take_append_drop _ l).symm
  conv => rhs; rw [e, List.filter_append]
  rw [filter_all, filter_none, List.append_nil]
  · intro x hx
    obtain ⟨i, hi, rfl⟩ := List.getElem_of_mem hx
    rw [List.length_drop] at hi
    rw [List.getElem_drop]
    exact below_pos hs (by omega) (by omega)
  · intro x hx
    obtain ⟨i, hi, rfl⟩ := List.getElem_of_mem hx
    rw [List.length_take] at hi
    rw [List.getElem_take]
    exact posL_below l k i (by omega) (by omega)
theorem pos_none (h : ∀ h : posL l k < l.length, l[posL l k].key ≠ k) : ∀ x ∈ l, x.key ≠ k := by
  intro x hx
  obtain ⟨i, hi, rfl⟩ := List.getElem_of_mem hx
  rcases Nat.lt_trichotomy i (posL l k) with h1 | h1 | h1
  · exact ltB_ne (posL_below l k i h1 hi)
  · subst h1; exact h hi
  · have h0 : ltB (l[posL l k]).key k = false := below_pos hs (by omega) (Nat.le_refl _)
    have h2 := sorted_at hs h1 hi
    intro e
    rw [e] at h2
    rw [h2] at h0; cases h0
theorem drop_in (h : posL l k < l.length) (hk : l[posL l k].key = k) : l.drop (posL l k + 1) = l.filter (fun x => ltB k x.key) := by
  have e : l = l.take (posL l k + 1) ++ l.drop (posL l k + 1) := (List.take_append_drop _ l).symm
  conv => rhs; rw [e, List.filter_append]
  rw [filter_none, filter_all, List.nil_append]
  · intro x hx
    obtain ⟨i, hi, rfl⟩ := List.getElem_of_mem hx
    rw [List.length_drop] at hi
    rw [List.getElem_drop]
    have h2 := sorted_at hs (i := posL l k) (j := posL l k + 1 + i) (by omega) (by omega)
    rwa [hk] at h2
  · intro x hx
    obtain ⟨i, hi, rfl⟩ := List.getElem_of_mem hx
    rw [List.length_take] at hi
    rw [List.getElem_take]
    rcases Nat.lt_or_eq_of_le (show i ≤ posL l k by omega) with h1 | h1
    · exact lt_le (posL_below l k i h1 (by omega))
    · subst h1; rw [hk]; exact ltB_self _
theorem drop_out (h : ∀ h : posL l k < l.length, l[posL l k].key ≠ k) : l.drop (posL l k) = l.filter (fun x => ltB k x.key) := by
  have e : l = l.take (posL l k) ++ l.drop (posL l k) := (List.take_append_drop _ l).symm
  conv => rhs; rw [e, List.filter_append]
  rw [filter_none, filter_all, List.nil_append]
  · intro x hx
    have hne := pos_none hs h x (List.mem_of_mem_drop hx)
    obtain ⟨i, hi, rfl⟩ := List.getElem_of_mem hx
    rw [List.length_drop] at hi
    rw [List.getElem_drop] at hne ⊢
    have h0 : ltB (l[posL l k + i]).key k = false := below_pos hs (by omega) (by omega)
    cases hc : ltB k (l[posL l k + i]).key with
    | true => rfl
    | false => exact absurd (ltB_tri h0 hc) hne
  · intro x hx
    obtain ⟨i, hi, rfl⟩ := List.getElem_of_mem hx
    rw [List.length_take] at hi
    rw [List.getElem_take]
    exact lt_le (posL_below l k i (by omega) (by omega))
theorem without_in (h : posL l k < l.length) (hk : l[posL l k].key = k) : l.take (posL l k) ++ l.drop (posL l k + 1) = withoutL l k := by
  rw [take_pos hs, drop_in hs h hk]
  unfold withoutL
  have e : l = l.take (posL l k) ++ l[posL l k] :: l.drop (posL l k + 1) := by
    rw [← List.drop_eq_getElem_cons h]; exact (List.take_append_drop _ l).symm
  conv => rhs; rw [e, List.filter_append, List.filter_cons_of_neg (by simp [hk])]
  rw [filter_all (l := l.take (posL l k)), filter_all (l := l.drop (posL l k + 1)), take_pos hs, drop_in hs h hk]
  · intro x hx
    rw [drop_in hs h hk] at hx
    have := (List.mem_filter.1 hx).2
    simp; exact fun e => ltB_ne this e.symm
  · intro x hx
    rw [take_pos hs] at hx
    have := (List.mem_filter.1 hx).2
    simp; exact ltB_ne this
end
theorem with_in {l : List It} (hs : l.Pairwise (fun a b => ltB a.key b.key = true)) (x : It) (h : posL l x.key < l.length) (hk : l[posL l x.key].key = x.key) : l.take (posL l x.key) ++ [x] ++ l.drop (posL l x.key + 1) = withL l x := by
  rw [take_pos hs, drop_in hs h hk]; unfold withL; simp
theorem with_out {l : List It} (hs : l.Pairwise (fun a b => ltB a.key b.key = true)) (x : It) (h : ∀ h : posL l x.key < l.length, l[posL l x.key].key ≠ x.key) : l.take (posL l x.key) ++ [x] ++ l.drop (posL l x.key) = withL l x := by
  rw [take_pos hs, drop_out hs h]; unfold withL; simp
end Go.Proofs.YtoagdmglchccnaaGreatDoor
