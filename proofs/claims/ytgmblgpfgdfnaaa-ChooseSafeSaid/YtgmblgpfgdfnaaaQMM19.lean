/- Slots: votes, which may be, where one is laid, who votes for what is proposed. Plain mathematics. -/
import Derived.Test.YtgmblgpfgdfnaaaQMM18
import Derived.Test.YtgmblgpfgdfnaaaQMM14
namespace Go.Proofs.Ytgmblgpfgdfnaaa
open Go Go.RowKit
set_option linter.unusedVariables false
set_option linter.unusedSimpArgs false
set_option linter.unusedSectionVars false
structure Vt where
  fr : Int
  vw : Int
  tm : Int
theorem Vt.ext' {x y : Vt} (h1 : x.fr = y.fr) (h2 : x.vw = y.vw) (h3 : x.tm = y.tm) : x = y := by cases x; cases y; simp_all
def numB (n : Int) : Bool := decide (0 ≤ n) && decide (n ≤ 2147483647)
theorem numB_iff (n : Int) : numB n = true ↔ 0 ≤ n ∧ n ≤ 2147483647 := by unfold numB; simp
def voteB (x : Vt) : Bool := decide (0 ≤ x.fr) && (decide (x.fr ≤ 63) && (numB x.vw && numB x.tm))
theorem voteB_iff (x : Vt) : voteB x = true ↔ 0 ≤ x.fr ∧ x.fr ≤ 63 ∧ numB x.vw = true ∧ numB x.tm = true := by unfold voteB; simp
def vt0 : Vt := ⟨0, 0, 0⟩
/-- Is the vote at a place as it may be, behind the one ahead of it? -/
def stepV (l : List Vt) (i : Nat) : Bool := voteB (l.getD i vt0) && (decide (i = 0) || decide ((l.getD (i - 1) vt0).fr < (l.getD i vt0).fr))
def areB (l : List Vt) : Bool := (List.range l.length).all (stepV l)
theorem all_up {f : Nat → Bool} {k : Nat} (h : (List.range k).all f = true) (h1 : f k = true) : (List.range (k + 1)).all f = true := by
  rw [List.range_succ, List.all_append, h]; simp [h1]
theorem all_no {f : Nat → Bool} {k n : Nat} (hk : k < n) (h1 : f k = false) : (List.range n).all f = false := by
  rw [List.all_eq_false]; exact ⟨k, List.mem_range.2 hk, by simp [h1]⟩
theorem getD_at {α : Type} {l : List α} {i : Nat} (d : α) (h : i < l.length) : l.getD i d = l[i] := by simp [List.getD, h]
theorem are_iff (l : List Vt) : areB l = true ↔ (∀ x ∈ l, voteB x = true) ∧ l.Pairwise (fun a b => a.fr < b.fr) := by
  unfold areB
  rw [List.all_eq_true]
  constructor
  · intro h
    have hs : ∀ i (hi : i < l.length), voteB l[i] = true ∧ ∀ j (hj : j + 1 = i), (l[j]'(by omega)).fr < l[i].fr := by
      intro i hi
      have := h i (List.mem_range.2 hi)
      unfold stepV at this
      rw [Bool.and_eq_true, Bool.or_eq_true, decide_eq_true_eq, decide_eq_true_eq, getD_at _ hi] at this
      refine ⟨this.1, ?_⟩
      rintro j rfl
      rcases this.2 with h2 | h2
      · omega
      · rw [show j + 1 - 1 = j by omega, getD_at _ (by omega)] at h2; exact h2
    refine ⟨?_, ?_⟩
    · intro x hx
      obtain ⟨i, hi, rfl⟩ := List.getElem_of_mem hx
      exact (hs i hi).1
    · rw [List.pairwise_iff_getElem]
      intro i j hi hj hij
      clear h
      induction j with
      | zero => omega
      | succ j ih =>
        have h1 := (hs (j + 1) hj).2 j rfl
        rcases Nat.lt_or_eq_of_le (show i ≤ j by omega) with h2 | h2
        · have := ih (by omega) h2; omega
        · subst h2; exact h1
  · rintro ⟨h1, h2⟩ i hi
    rw [List.mem_range] at hi
    unfold stepV
    rw [getD_at _ hi, h1 _ (List.getElem_mem hi), Bool.true_and, Bool.or_eq_true, decide_eq_true_eq, decide_eq_true_eq]
    by_cases h0 : i = 0
    · exact .inl h0
    · refine .inr ?_
      rw [getD_at _ (by omega)]
      exact List.pairwise_iff_getElem.1 h2 (i - 1) i (by omega) hi (by omega)
theorem are_all {l : List Vt} (h : areB l = true) : ∀ x ∈ l, voteB x = true := ((are_iff l).1 h).1
theorem are_sort {l : List Vt} (h : areB l = true) : l.Pairwise (fun a b => a.fr < b.fr) := ((are_iff l).1 h).2
theorem are_nil : areB [] = true := rfl
theorem vt_at {l : List Vt} (hs : l.Pairwise (fun a b => a.fr < b.fr)) {i j : Nat} (hij : i < j) (hj : j < l.length) : (l[i]'(by omega)).fr < l[j].fr :=
  List.pairwise_iff_getElem.1 hs i j (by omega) hj hij
/-- At most 64. -/
theorem are_len {l : List Vt} (h : areB l = true) : l.length ≤ 64 := by
  have hall := are_all h
  have hs := are_sort h
  by_cases h0 : l.length = 0
  · omega
  · have key : ∀ i (hi : i < l.length), (i : Int) ≤ l[i].fr := by
      intro i
      induction i with
      | zero => intro hi; have := (voteB_iff _).1 (hall _ (List.getElem_mem hi)); omega
      | succ i ih => intro hi; have h1 := ih (by omega); have h2 := vt_at hs (show i < i + 1 by omega) hi; omega
    have h1 := key (l.length - 1) (by omega)
    have h2 := (voteB_iff _).1 (hall _ (List.getElem_mem (show l.length - 1 < l.length by omega)))
    omega
/-- Where a replica's vote stands, or would. -/
def posV (l : List Vt) (p : Int) : Nat := (l.takeWhile (fun x => decide (x.fr < p))).length
theorem posV_le (l : List Vt) (p : Int) : posV l p ≤ l.length := by unfold posV; exact (List.takeWhile_prefix _).length_le
theorem posV_below (l : List Vt) (p : Int) (i : Nat) (h : i < posV l p) (hi : i < l.length) : l[i].fr < p := by
  unfold posV at h
  have h1 := (List.takeWhile_prefix (l := l) (fun x => decide (x.fr < p))).getElem h
  have h2 := List.all_eq_true.1 (List.all_takeWhile (l := l) (p := fun x => decide (x.fr < p))) _ (List.getElem_mem h)
  rw [h1] at h2
  simpa using h2
theorem posV_at (l : List Vt) (p : Int) (h : posV l p < l.length) : ¬ l[posV l p].fr < p := by
  intro hc
  have : ∀ l : List Vt, ∀ h : posV l p < l.length, ¬ (l[posV l p].fr < p) := by
    intro l
    induction l with
    | nil => intro h; simp at h
    | cons x r ih =>
      intro h hc
      by_cases hx : x.fr < p
      · have e : posV (x :: r) p = posV r p + 1 := by unfold posV; rw [List.takeWhile_cons, if_pos (by simpa using hx), List.length_cons]
        simp only [e] at h hc
        rw [List.getElem_cons_succ] at hc
        exact ih (by simpa using h) hc
      · have e : posV (x :: r) p = 0 := by unfold posV; rw [List.takeWhile_cons, if_neg (by simpa using hx)]; rfl
        simp only [e] at hc
        rw [List.getElem_cons_zero] at hc
        exact hx hc
  exact this l h hc
theorem posV_of {l : List Vt} {p : Int} {n : Nat} (hn : n ≤ l.length) (h1 : ∀ i (h : i < l.length), i < n → l[i].fr < p) (h2 : ∀ h : n < l.length, ¬ l[n].fr < p) : posV l p = n := by
  rcases Nat.lt_trichotomy (posV l p) n with h | h | h
  · exact absurd (h1 _ (by omega) h) (posV_at l p (by omega))
  · exact h
  · have h3 := posV_le l p
    exact absurd (posV_below l p n h (by omega)) (h2 (by omega))
def foundV (l : List Vt) (p : Int) : Bool := match l[posV l p]? with | some x => decide (x.fr = p) | none => false
theorem foundV_at {l : List Vt} {p : Int} (h : posV l p < l.length) : foundV l p = decide (l[posV l p].fr = p) := by unfold foundV; rw [List.getElem?_eq_getElem h]
theorem foundV_end {l : List Vt} {p : Int} (h : l.length ≤ posV l p) : foundV l p = false := by unfold foundV; rw [List.getElem?_eq_none h]
/-- A vote laid among others. -/
def layL (l : List Vt) (v : Vt) : List Vt := l.filter (fun x => decide (x.fr < v.fr)) ++ v :: l.filter (fun x => decide (v.fr < x.fr))
/-- What is wrong with it. -/
def layE (l : List Vt) (v : Vt) : Nat := match l.find? (fun x => decide (x.fr = v.fr)) with
  | none => 0
  | some x => if v.vw < x.vw then 18 else if x.vw = v.vw then (if x.tm = v.tm then 16 else 23) else 0
theorem filt_take {l : List Vt} {p : Int} (hs : l.Pairwise (fun a b => a.fr < b.fr)) : l.filter (fun x => decide (x.fr < p)) = l.take (posV l p) := by
  unfold posV
  induction l with
  | nil => rfl
  | cons x r ih =>
    rw [List.pairwise_cons] at hs
    by_cases hx : x.fr < p
    · rw [List.filter_cons, if_pos (by simpa using hx), List.takeWhile_cons, if_pos (by simpa using hx), List.length_cons, List.take_succ_cons, ih hs.2]
    · rw [List.filter_cons, if_neg (by simpa using hx), List.takeWhile_cons, if_neg (by simpa using hx), List.length_nil, List.take_zero, List.filter_eq_nil_iff]
      intro y hy
      have := hs.1 y hy
      simp; omega
theorem filt_drop {l : List Vt} {p : Int} (hs : l.Pairwise (fun a b => a.fr < b.fr)) : l.filter (fun x => decide (p < x.fr)) = l.drop (posV l p + if foundV l p then 1 else 0) := by
  have e1 : l.filter (fun x => decide (p < x.fr)) = (l.drop (posV l p)).filter (fun x => decide (p < x.fr)) := by
    conv => lhs; rw [← List.take_append_drop (posV l p) l, List.filter_append]
    rw [List.filter_eq_nil_iff.2, List.nil_append]
    intro x hx
    rw [← filt_take hs, List.mem_filter] at hx
    have := hx.2
    simp at this ⊢; omega
  rw [e1]
  have hall : ∀ q, posV l p + 1 ≤ q → ((l.drop q).filter (fun x => decide (p < x.fr))) = l.drop q := by
    intro q hq
    rw [List.filter_eq_self]
    intro x hx
    obtain ⟨i, hi, rfl⟩ := List.getElem_of_mem hx
    rw [List.length_drop] at hi
    rw [List.getElem_drop]
    have h1 := vt_at hs (show posV l p < q + i by omega) (by omega)
    have h2 := posV_at l p (by omega)
    simp; omega
  by_cases hp : posV l p < l.length
  · rw [foundV_at hp]
    by_cases hf : l[posV l p].fr = p
    · rw [List.drop_eq_getElem_cons hp, List.filter_cons, if_neg (by simp; omega), hall _ (Nat.le_refl _)]
      simp [hf]
    · have h2 := posV_at l p hp
      rw [List.drop_eq_getElem_cons hp, List.filter_cons, if_pos (by simp; omega), hall _ (Nat.le_refl _), ← List.drop_eq_getElem_cons hp]
      simp [hf]
  · rw [foundV_end (by omega), List.drop_of_length_le (by omega)]
    rw [List.drop_of_length_le (by simp; omega)]; rfl
theorem lay_no {l : List Vt} {v : Vt} (hs : l.Pairwise (fun a b => a.fr < b.fr)) (h : foundV l v.fr = false) : layL l v = l.take (posV l v.fr) ++ v :: l.drop (posV l v.fr) := by
  unfold layL; rw [filt_take hs, filt_drop hs, h]; rfl
theorem lay_yes {l : List Vt} {v : Vt} (hs : l.Pairwise (fun a b => a.fr < b.fr)) (h : foundV l v.fr = true) : layL l v = l.set (posV l v.fr) v := by
  have hp : posV l v.fr < l.length := by
    rcases Nat.lt_or_ge (posV l v.fr) l.length with h1 | h1
    · exact h1
    · rw [foundV_end h1] at h; cases h
  unfold layL; rw [filt_take hs, filt_drop hs, h, if_pos rfl, List.set_eq_take_append_cons_drop, if_pos hp]
theorem foundV_lt {l : List Vt} {p : Int} (h : foundV l p = true) : posV l p < l.length := by
  rcases Nat.lt_or_ge (posV l p) l.length with h1 | h1
  · exact h1
  · rw [foundV_end h1] at h; cases h
/-- The vote of a replica is where it stands, and nowhere else. -/
theorem find_yes {l : List Vt} {p : Int} (hs : l.Pairwise (fun a b => a.fr < b.fr)) (h : foundV l p = true) : l.find? (fun x => decide (x.fr = p)) = some (l[posV l p]'(foundV_lt h)) := by
  have hp := foundV_lt h
  rw [foundV_at hp, decide_eq_true_eq] at h
  rw [List.find?_eq_some_iff_getElem]
  refine ⟨by simpa using h, posV l p, hp, rfl, ?_⟩
  intro j hj
  have := vt_at hs hj hp
  simp; omega
theorem find_no {l : List Vt} {p : Int} (hs : l.Pairwise (fun a b => a.fr < b.fr)) (h : foundV l p = false) : l.find? (fun x => decide (x.fr = p)) = none := by
  rw [List.find?_eq_none]
  intro x hx
  obtain ⟨i, hi, rfl⟩ := List.getElem_of_mem hx
  rcases Nat.lt_trichotomy i (posV l p) with h1 | h1 | h1
  · have := posV_below l p i h1 hi; simp; omega
  · subst h1
    rw [foundV_at hi] at h
    simpa using h
  · have h2 := vt_at hs h1 hi
    have h3 := posV_at l p (by omega)
    simp; omega
theorem layE_yes {l : List Vt} {v : Vt} (hs : l.Pairwise (fun a b => a.fr < b.fr)) (h : foundV l v.fr = true) {x : Vt} (hx : x = l[posV l v.fr]'(foundV_lt h)) : layE l v = if v.vw < x.vw then 18 else if x.vw = v.vw then (if x.tm = v.tm then 16 else 23) else 0 := by
  unfold layE; rw [find_yes hs h, hx]
theorem layE_no {l : List Vt} {v : Vt} (hs : l.Pairwise (fun a b => a.fr < b.fr)) (h : foundV l v.fr = false) : layE l v = 0 := by
  unfold layE; rw [find_no hs h]
theorem lay_len (l : List Vt) (v : Vt) : (layL l v).length ≤ l.length + 1 := by
  unfold layL
  rw [List.length_append, List.length_cons]
  have h1 : ∀ l : List Vt, (l.filter (fun x => decide (x.fr < v.fr))).length + (l.filter (fun x => decide (v.fr < x.fr))).length ≤ l.length := by
    intro l
    induction l with
    | nil => simp
    | cons x r ih =>
      rw [List.filter_cons, List.filter_cons]
      rcases Int.lt_trichotomy x.fr v.fr with h | h | h
      · rw [if_pos (by simpa using h), if_neg (by simp; omega)]; simp only [List.length_cons]; omega
      · rw [if_neg (by simp; omega), if_neg (by simp; omega)]; simp only [List.length_cons]; omega
      · rw [if_neg (by simp; omega), if_pos (by simpa using h)]; simp only [List.length_cons]; omega
  have := h1 l
  omega
theorem lay_are {l : List Vt} {v : Vt} (h : areB l = true) (hv : voteB v = true) : areB (layL l v) = true := by
  rw [are_iff] at h ⊢
  unfold layL
  refine ⟨?_, ?_⟩
  · intro x hx
    rw [List.mem_append, List.mem_cons] at hx
    rcases hx with hx | rfl | hx
    · exact h.1 x (List.mem_filter.1 hx).1
    · exact hv
    · exact h.1 x (List.mem_filter.1 hx).1
  · rw [List.pairwise_append]
    refine ⟨h.2.filter _, ?_, ?_⟩
    · rw [List.pairwise_cons]
      refine ⟨?_, h.2.filter _⟩
      intro x hx
      simpa using (List.mem_filter.1 hx).2
    · intro a ha b hb
      have h1 : a.fr < v.fr := by simpa using (List.mem_filter.1 ha).2
      rw [List.mem_cons] at hb
      rcases hb with rfl | hb
      · exact h1
      · have h2 : v.fr < b.fr := by simpa using (List.mem_filter.1 hb).2
        omega
end Go.Proofs.Ytgmblgpfgdfnaaa
