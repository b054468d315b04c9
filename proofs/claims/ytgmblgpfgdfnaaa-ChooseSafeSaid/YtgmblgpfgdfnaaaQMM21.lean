/- Marks: which may be; what is kept of them; plain mathematics (a mark is Vt: fr = From, vw = Seq, tm = Term). Written by wip/tools/gen30a.py. -/
import Derived.Test.YtgmblgpfgdfnaaaQMM20
namespace Go.Proofs.Ytgmblgpfgdfnaaa
open Go
/-- Is a checkpoint taken at s? -/
def dueB (s : Int) : Bool := decide (0 < s) && decide (s % 4 = 0)
/-- Is s looked at, above low? -/
def witB (low s : Int) : Bool := decide (low < s) && (decide (s - low ≤ 16) && numB s)
def aheadB (a b : Vt) : Bool := decide (a.vw < b.vw) || (decide (a.vw = b.vw) && decide (a.fr < b.fr))
def okM (low : Int) (x : Vt) : Bool := decide (0 ≤ x.fr) && (decide (x.fr ≤ 63) && (dueB x.vw && (witB low x.vw && numB x.tm)))
def stepM (low : Int) (l : List Vt) (i : Nat) : Bool := okM low (l.getD i vt0) && (decide (i = 0) || aheadB (l.getD (i - 1) vt0) (l.getD i vt0))
def allM (low : Int) (l : List Vt) : Bool := (List.range l.length).all (stepM low l)
structure Ms where
  low : Int
  root : Int
  l : List Vt
def ms0 : Ms := ⟨0, 0, []⟩
def mayM (m : Ms) : Bool := numB m.low && (decide (m.low % 4 = 0) && (numB m.root && allM m.low m.l))
theorem witB_num {low s : Int} (h : witB low s = true) : numB s = true ∧ low < s ∧ s - low ≤ 16 := by
  unfold witB at h; simp at h; exact ⟨h.2.2, h.1, h.2.1⟩
theorem aheadB_iff (a b : Vt) : aheadB a b = true ↔ a.vw < b.vw ∨ (a.vw = b.vw ∧ a.fr < b.fr) := by unfold aheadB; simp
theorem aheadB_trans {a b c : Vt} (h : aheadB a b = true) (k : aheadB b c = true) : aheadB a c = true := by
  rw [aheadB_iff] at *; omega
theorem okM_iff (low : Int) (x : Vt) : okM low x = true ↔ 0 ≤ x.fr ∧ x.fr ≤ 63 ∧ dueB x.vw = true ∧ witB low x.vw = true ∧ numB x.tm = true := by unfold okM; simp
theorem allM_iff (low : Int) (l : List Vt) : allM low l = true ↔ (∀ x ∈ l, okM low x = true) ∧ l.Pairwise (fun a b => aheadB a b = true) := by
  have key : allM low l = true ↔ ∀ i (h : i < l.length), okM low l[i] = true ∧ (i = 0 ∨ ∃ j, ∃ e : i = j + 1, aheadB (l[j]'(by omega)) l[i] = true) := by
    unfold allM
    rw [List.all_eq_true]
    constructor
    · intro h i hi
      have h1 := h i (List.mem_range.2 hi)
      unfold stepM at h1
      rw [getD_at _ hi] at h1
      simp only [Bool.and_eq_true, Bool.or_eq_true, decide_eq_true_eq] at h1
      refine ⟨h1.1, ?_⟩
      rcases h1.2 with h2 | h2
      · exact .inl h2
      · by_cases h0 : i = 0
        · exact .inl h0
        · obtain ⟨j, rfl⟩ : ∃ j, i = j + 1 := ⟨i - 1, by omega⟩
          rw [show j + 1 - 1 = j by omega, getD_at _ (show j < l.length by omega)] at h2
          exact .inr ⟨j, rfl, h2⟩
    · intro h i hi
      have hi := List.mem_range.1 hi
      obtain ⟨h1, h2⟩ := h i hi
      unfold stepM
      rw [getD_at _ hi, h1]
      rcases h2 with rfl | ⟨j, rfl, h2⟩
      · simp
      · rw [show j + 1 - 1 = j by omega, getD_at _ (show j < l.length by omega), h2]
        simp
  rw [key]
  constructor
  · intro h
    refine ⟨fun x hx => ?_, ?_⟩
    · obtain ⟨i, hi, rfl⟩ := List.mem_iff_getElem.1 hx
      exact (h i hi).1
    · have up : ∀ d i (hd : i + d + 1 < l.length), aheadB (l[i]'(by omega)) (l[i + d + 1]'hd) = true := by
        intro d
        induction d with
        | zero =>
          intro i hd
          rcases (h (i + 1) hd).2 with h0 | ⟨j, e, h2⟩
          · omega
          · obtain rfl : i = j := by omega
            exact h2
        | succ d ih =>
          intro i hd
          have h1 := ih i (by omega)
          rcases (h (i + (d + 1) + 1) hd).2 with h0 | ⟨j, e, h2⟩
          · omega
          · obtain rfl : j = i + d + 1 := by omega
            exact aheadB_trans h1 h2
      rw [List.pairwise_iff_getElem]
      intro i j hi hj hij
      have := up (j - i - 1) i (by omega)
      simpa [show i + (j - i - 1) + 1 = j by omega] using this
  · rintro ⟨h1, h2⟩ i hi
    refine ⟨h1 _ (List.getElem_mem hi), ?_⟩
    by_cases h0 : i = 0
    · exact .inl h0
    · obtain ⟨j, rfl⟩ : ∃ j, i = j + 1 := ⟨i - 1, by omega⟩
      exact .inr ⟨j, rfl, List.pairwise_iff_getElem.1 h2 j (j + 1) (by omega) hi (by omega)⟩
theorem mayM_iff (m : Ms) : mayM m = true ↔ numB m.low = true ∧ m.low % 4 = 0 ∧ numB m.root = true ∧ allM m.low m.l = true := by unfold mayM; simp
/-- The marks of a list behind a number. -/
def laterL (l : List Vt) (low : Int) : List Vt := l.filter fun x => decide (low < x.vw)
theorem later_all {l : List Vt} {low lo : Int} (h : allM low l = true) (h1 : low ≤ lo) : allM lo (laterL l lo) = true := by
  rw [allM_iff] at h ⊢
  refine ⟨fun x hx => ?_, h.2.filter _⟩
  unfold laterL at hx
  rw [List.mem_filter] at hx
  have h2 := h.1 x hx.1
  have h3 : lo < x.vw := by simpa using hx.2
  rw [okM_iff] at h2 ⊢
  refine ⟨h2.1, h2.2.1, h2.2.2.1, ?_, h2.2.2.2.2⟩
  obtain ⟨q1, q2, q3⟩ := witB_num h2.2.2.2.1
  unfold witB
  rw [q1, decide_eq_true h3, decide_eq_true (show x.vw - lo ≤ 16 by omega)]
  rfl
/-- Where marks go on to a checkpoint: the number of the error. -/
def moveE (m : Ms) (low root : Int) : Nat := if (mayM m && (dueB low && (numB low && numB root))) = false then 1 else if low ≤ m.low then 18 else 0
def moveR (m : Ms) (low root : Int) : Ms := if moveE m low root = 0 then ⟨low, root, laterL m.l low⟩ else ms0
theorem step_okM {low : Int} {l : List Vt} {k : Nat} (h : k < l.length) (hv : okM low l[k] = false) : stepM low l k = false := by unfold stepM; rw [getD_at _ h, hv]; rfl
theorem step_firstM {low : Int} {l : List Vt} (h : 0 < l.length) (hv : okM low l[0] = true) : stepM low l 0 = true := by unfold stepM; rw [getD_at _ h, hv]; rfl
theorem step_nextM {low : Int} {l : List Vt} {j : Nat} (h : j + 1 < l.length) (hv : okM low l[j + 1] = true) : stepM low l (j + 1) = aheadB (l[j]'(by omega)) l[j + 1] := by
  unfold stepM; rw [getD_at _ h, hv, show j + 1 - 1 = j by omega, getD_at _ (show j < l.length by omega)]; simp
end Go.Proofs.Ytgmblgpfgdfnaaa
