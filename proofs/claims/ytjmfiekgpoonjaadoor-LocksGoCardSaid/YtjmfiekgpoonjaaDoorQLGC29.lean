/- Locks: what a schedule is. Plain mathematics. Written by wip/tools/gen24g.py. -/
import Derived.Test.YtjmfiekgpoonjaaDoorQLGC28
namespace Go.Proofs.YtjmfiekgpoonjaaDoor
open Go Go.RowKit
set_option linter.unusedVariables false
set_option linter.unusedSimpArgs false
def cntS (f : Nat → Nat) : Nat → Nat
  | 0 => 0
  | n + 1 => cntS f n + f n
theorem cntS_le {f : Nat → Nat} {c : Nat} : ∀ n, (∀ i, f i ≤ c) → cntS f n ≤ c * n
  | 0, _ => Nat.zero_le _
  | n + 1, h => by have := cntS_le n h; have := h n; rw [cntS, Nat.mul_succ]; omega
theorem cntS_all {f : Nat → Nat} {c : Nat} : ∀ n, (∀ i, i < n → f i = c) → cntS f n = c * n
  | 0, _ => rfl
  | n + 1, h => by rw [cntS, cntS_all n fun i hi => h i (by omega), h n (by omega), Nat.mul_succ]
theorem cntS_same {f g : Nat → Nat} : ∀ n, (∀ i, i < n → g i = f i) → cntS g n = cntS f n
  | 0, _ => rfl
  | n + 1, h => by rw [cntS, cntS, cntS_same n fun i hi => h i (by omega), h n (by omega)]
theorem cntS_up {f g : Nat → Nat} {i : Nat} (hg : g i = f i + 1) (hs : ∀ j, j ≠ i → g j = f j) : ∀ n, i < n → cntS g n = cntS f n + 1
  | 0, h => absurd h (Nat.not_lt_zero _)
  | n + 1, h => by
    rw [cntS, cntS]
    by_cases e : i = n
    · subst e
      rw [cntS_same i fun j hj => hs j (by omega), hg]; omega
    · rw [cntS_up hg hs n (by omega), hs n (by omega)]; omega
theorem cntS_zero {n i : Nat} : cntS (fun _ => 0) n = 0 := by have := cntS_all (f := fun _ => 0) (c := 0) n (fun _ _ => rfl); omega
theorem rep_zero (N i : Nat) : (List.replicate N 0).getD i 0 = 0 := by simp only [List.getD, List.getElem?_replicate]; split <;> rfl
/-- Where a schedule stands: how far all are, those ended in their order, how many steps were taken. -/
structure Sched (L : List Wt) (N : Nat) (at' E : List Nat) (k : Nat) : Prop where
  fair : Fair L at'
  len : at'.length = N
  cnt : cntS (fun i => at'.getD i 0) N = k
  mem : ∀ i, i ∈ E ↔ i < N ∧ at'.getD i 0 = 2
  el : E.length = cntS (fun i => if at'.getD i 0 = 2 then 1 else 0) N
  nd : E.Nodup
  ord : ∀ x y, x < y → y < E.length → E.getD y 0 < E.getD x 0 → clN L (E.getD y 0) (E.getD x 0) = false
theorem Sched.zero (L : List Wt) (N : Nat) : Sched L N (List.replicate N 0) [] 0 := by
  refine ⟨fair_zero L N, by simp, ?_, fun i => ?_, ?_, List.nodup_nil, fun x y _ h => absurd h (Nat.not_lt_zero _)⟩
  · rw [cntS_all (c := 0) N fun i _ => rep_zero N i]; omega
  · rw [rep_zero]; simp
  · rw [cntS_all (c := 0) N fun i _ => by rw [rep_zero]; rfl]; simp
theorem Sched.most {L : List Wt} {N : Nat} {at' E : List Nat} {k : Nat} (h : Sched L N at' E k) : k ≤ 2 * N := by
  rw [← h.cnt]; exact cntS_le N fun i => h.fair.1 i
theorem set_getD {l : List Nat} {i x : Nat} (hi : i < l.length) (j : Nat) : (l.set i x).getD j 0 = if i = j then x else l.getD j 0 := by
  rw [getD_set]
  by_cases h : i = j
  · subst h; rw [if_pos ⟨rfl, hi⟩, if_pos rfl]
  · rw [if_neg (by omega), if_neg h]
theorem Sched.begin {L : List Wt} {N : Nat} {at' E : List Nat} {k : Nat} (h : Sched L N at' E k) {i : Nat} (hi : i < N) (h0 : at'.getD i 0 = 0) (ho : opL L at' i = []) :
    bgC L at' i = 0 ∧ Sched L N (bgA L at' i) E (k + 1) := by
  have hc : bgC L at' i = 0 := by unfold bgC; rw [if_neg (show ¬ (at'.getD i 0 ≠ 0) from fun q => q h0), ho]; rfl
  have hf := fair_begin h.fair i
  have hA : bgA L at' i = at'.set i 1 := by unfold bgA; rw [if_pos hc]
  rw [hA] at hf ⊢
  have hl : i < at'.length := by rw [h.len]; exact hi
  refine ⟨hc, hf, by rw [List.length_set]; exact h.len, ?_, fun j => ?_, ?_, h.nd, h.ord⟩
  · rw [← h.cnt]
    refine cntS_up (i := i) ?_ (fun j hj => ?_) N hi
    · show (at'.set i 1).getD i 0 = _; rw [set_getD hl, if_pos rfl, h0]
    · show (at'.set i 1).getD j 0 = _; rw [set_getD hl, if_neg (fun e => hj e.symm)]
  · rw [h.mem, set_getD hl]
    by_cases e : i = j
    · subst e; rw [if_pos rfl]; omega
    · rw [if_neg e]
  · rw [h.el]
    refine (cntS_same N fun j _ => ?_).symm
    show (if (at'.set i 1).getD j 0 = 2 then 1 else 0) = _
    rw [set_getD hl]
    by_cases e : i = j
    · subst e; rw [if_pos rfl, if_neg (by omega), if_neg (by omega)]
    · rw [if_neg e]
theorem getD_snoc_lt {l : List Nat} {x i : Nat} (h : i < l.length) : (l ++ [x]).getD i 0 = l.getD i 0 := by simp [List.getD, List.getElem?_append_left h]
theorem getD_snoc_eq {l : List Nat} {x : Nat} : (l ++ [x]).getD l.length 0 = x := by simp [List.getD]
theorem getD_mem {l : List Nat} {i : Nat} (h : i < l.length) : l.getD i 0 ∈ l := by
  rw [List.getD_eq_getElem?_getD, List.getElem?_eq_getElem h]; exact List.getElem_mem h
theorem Sched.end {L : List Wt} {N : Nat} {at' E : List Nat} {k : Nat} (h : Sched L N at' E k) {i : Nat} (hi : i < N) (h1 : at'.getD i 0 = 1) :
    enC at' i = 0 ∧ Sched L N (enA at' i) (E ++ [i]) (k + 1) := by
  have hc : enC at' i = 0 := by unfold enC; rw [if_neg (by omega), if_neg (by omega)]
  have hf := fair_end h.fair i
  have hA : enA at' i = at'.set i 2 := by unfold enA; rw [if_pos hc]
  rw [hA] at hf ⊢
  have hl : i < at'.length := by rw [h.len]; exact hi
  have hin : i ∉ E := fun q => by have := ((h.mem i).1 q).2; omega
  refine ⟨hc, hf, by rw [List.length_set]; exact h.len, ?_, fun j => ?_, ?_, ?_, fun x y hxy hy hlt => ?_⟩
  · rw [← h.cnt]
    refine cntS_up (i := i) ?_ (fun j hj => ?_) N hi
    · show (at'.set i 2).getD i 0 = _; rw [set_getD hl, if_pos rfl, h1]
    · show (at'.set i 2).getD j 0 = _; rw [set_getD hl, if_neg (fun e => hj e.symm)]
  · rw [List.mem_append, List.mem_singleton, h.mem, set_getD hl]
    by_cases e : i = j
    · subst e; rw [if_pos rfl]; omega
    · rw [if_neg e]
      constructor
      · rintro (q | q)
        · exact q
        · exact absurd q.symm e
      · exact .inl
  · rw [List.length_append, h.el, List.length_singleton]
    refine (cntS_up (i := i) ?_ (fun j hj => ?_) N hi).symm
    · show (if (at'.set i 2).getD i 0 = 2 then 1 else 0) = _; rw [set_getD hl, if_pos rfl, h1]; rfl
    · show (if (at'.set i 2).getD j 0 = 2 then 1 else 0) = _; rw [set_getD hl, if_neg (show ¬ i = j from fun e => hj e.symm)]
  · rw [List.nodup_append]
    refine ⟨h.nd, by simp, ?_⟩
    intro x hx y hy
    have hy := List.mem_singleton.1 hy
    subst hy
    exact fun e => hin (e ▸ hx)
  · rw [List.length_append, List.length_singleton] at hy
    by_cases e : y = E.length
    · subst e
      rw [getD_snoc_eq, getD_snoc_lt hxy] at hlt ⊢
      obtain ⟨hx1, hx2⟩ := (h.mem _).1 (getD_mem hxy)
      cases hq : clN L i (E.getD x 0) with
      | false => rfl
      | true =>
        have hj : i ∈ ahN L (E.getD x 0) (E.getD x 0) := by
          unfold ahN; rw [List.mem_filter, List.mem_range, clN_comm]; exact ⟨hlt, hq⟩
        have := h.fair.2 _ (by omega) i hj
        omega
    · rw [getD_snoc_lt (by omega : y < E.length), getD_snoc_lt (by omega : x < E.length)] at hlt ⊢
      exact h.ord x y hxy (by omega) hlt
/-- While not all are done, one may begin or one may end. -/
theorem Sched.goes {L : List Wt} {N : Nat} {at' E : List Nat} {k : Nat} (h : Sched L N at' E k) : ∀ i, i < N → at'.getD i 0 ≠ 2 → ∃ j, j < N ∧ (at'.getD j 0 = 1 ∨ (at'.getD j 0 = 0 ∧ opL L at' j = [])) := by
  intro i
  induction i using Nat.strongRecOn with
  | ind i ih =>
    intro hi h2
    have hle := h.fair.1 i
    by_cases h1 : at'.getD i 0 = 1
    · exact ⟨i, hi, .inl h1⟩
    · have h0 : at'.getD i 0 = 0 := by omega
      by_cases ho : opL L at' i = []
      · exact ⟨i, hi, .inr ⟨h0, ho⟩⟩
      · obtain ⟨j, hj⟩ := List.exists_mem_of_ne_nil _ ho
        unfold opL at hj
        rw [List.mem_filter] at hj
        have hji := ahN_lt hj.1
        exact ih j hji (by omega) (by simpa using hj.2)
/-- Those that run do not clash. -/
theorem Sched.apart {L : List Wt} {N : Nat} {at' E : List Nat} {k : Nat} (h : Sched L N at' E k) {i j : Nat} (hij : i < j) (h1 : at'.getD i 0 = 1) (h2 : at'.getD j 0 = 1) : clN L j i = false := by
  cases hq : clN L j i with
  | false => rfl
  | true =>
    have := h.fair.2 j (by omega) i (by unfold ahN; rw [List.mem_filter, List.mem_range]; exact ⟨hij, hq⟩)
    omega
def runL (N : Nat) (at' : List Nat) : List Nat := (List.range N).filter fun i => at'.getD i 0 == 1
def redL (L : List Wt) (N : Nat) (at' : List Nat) : List Nat := (List.range N).filter fun i => at'.getD i 0 == 0 && (opL L at' i).length == 0
theorem runL_get {N : Nat} {at' : List Nat} {a : Nat} (ha : a < (runL N at').length) : (runL N at').getD a 0 < N ∧ at'.getD ((runL N at').getD a 0) 0 = 1 := by
  have hm := getD_mem ha
  generalize (runL N at').getD a 0 = x at hm
  unfold runL at hm
  rw [List.mem_filter, List.mem_range, beq_iff_eq] at hm
  exact hm
theorem redL_get {L : List Wt} {N : Nat} {at' : List Nat} {a : Nat} (ha : a < (redL L N at').length) : (redL L N at').getD a 0 < N ∧ at'.getD ((redL L N at').getD a 0) 0 = 0 ∧ opL L at' ((redL L N at').getD a 0) = [] := by
  have hm := getD_mem ha
  generalize (redL L N at').getD a 0 = x at hm
  unfold redL at hm
  rw [List.mem_filter, List.mem_range, Bool.and_eq_true, beq_iff_eq, beq_iff_eq] at hm
  exact ⟨hm.1, hm.2.1, List.eq_nil_of_length_eq_zero hm.2.2⟩
theorem runL_lt {N : Nat} {at' : List Nat} {a b : Nat} (hab : a < b) (hb : b < (runL N at').length) : (runL N at').getD a 0 < (runL N at').getD b 0 := by
  have hp : (runL N at').Pairwise (· < ·) := List.Pairwise.filter _ List.pairwise_lt_range
  have := List.pairwise_iff_getElem.1 hp a b (by omega) hb hab
  rw [List.getD_eq_getElem?_getD, List.getD_eq_getElem?_getD, List.getElem?_eq_getElem hb, List.getElem?_eq_getElem (by omega : a < (runL N at').length)]
  exact this
theorem Sched.pairs {L : List Wt} {N : Nat} {at' E : List Nat} {k : Nat} (h : Sched L N at' E k) {a b : Nat} (hab : a < b) (hb : b < (runL N at').length) : clN L ((runL N at').getD b 0) ((runL N at').getD a 0) = false :=
  h.apart (runL_lt hab hb) (runL_get (by omega)).2 (runL_get hb).2
theorem Sched.some {L : List Wt} {N : Nat} {at' E : List Nat} {k : Nat} (h : Sched L N at' E k) (hq : ((List.range N).filter fun i => at'.getD i 0 != 2).length ≠ 0) : (redL L N at').length + (runL N at').length ≠ 0 := by
  have hne : ((List.range N).filter fun i => at'.getD i 0 != 2) ≠ [] := fun e => hq (by rw [e]; rfl)
  obtain ⟨i, hi⟩ := List.exists_mem_of_ne_nil _ hne
  rw [List.mem_filter, List.mem_range, bne_iff_ne] at hi
  obtain ⟨j, hj, h1 | ⟨h0, ho⟩⟩ := h.goes i hi.1 hi.2
  · have : j ∈ runL N at' := by unfold runL; rw [List.mem_filter, List.mem_range, beq_iff_eq]; exact ⟨hj, h1⟩
    have := List.length_pos_of_mem this
    omega
  · have : j ∈ redL L N at' := by unfold redL; rw [List.mem_filter, List.mem_range, Bool.and_eq_true, beq_iff_eq, beq_iff_eq]; exact ⟨hj, h0, by rw [ho]; rfl⟩
    have := List.length_pos_of_mem this
    omega
theorem count_nodup (k : Nat) : ∀ (E : List Nat), E.Nodup → (E.filter fun x => x == k).length = if k ∈ E then 1 else 0
  | [], _ => rfl
  | x :: E, h => by
    rw [List.nodup_cons] at h
    have ih := count_nodup k E h.2
    rw [List.filter_cons]
    by_cases e : x = k
    · subst e
      rw [if_pos (by simp), if_pos List.mem_cons_self, List.length_cons, ih, if_neg h.1]
    · rw [if_neg (by simpa using e), ih]
      by_cases hm : k ∈ E
      · rw [if_pos hm, if_pos (List.mem_cons_of_mem _ hm)]
      · rw [if_neg hm, if_neg (fun q => by rcases List.mem_cons.1 q with q | q; exact e q.symm; exact hm q)]
/-- When all are done: each ended once. -/
theorem Sched.whole {L : List Wt} {N : Nat} {at' E : List Nat} {k : Nat} (h : Sched L N at' E k) (hq : ((List.range N).filter fun i => at'.getD i 0 != 2).length = 0) : E.length = N ∧ (∀ x, x < N → (E.filter fun y => y == x).length = 1) ∧ ∀ i, i < E.length → E.getD i 0 < N := by
  have hall : ∀ i, i < N → at'.getD i 0 = 2 := by
    intro i hi
    have e := List.eq_nil_of_length_eq_zero hq
    rw [List.filter_eq_nil_iff] at e
    have := e i (List.mem_range.2 hi)
    simpa using this
  refine ⟨?_, fun x hx => ?_, fun i hi => ((h.mem _).1 (getD_mem hi)).1⟩
  · rw [h.el, cntS_all (c := 1) N fun i hi => by rw [if_pos (hall i hi)]]; omega
  · rw [count_nodup x E h.nd, if_pos ((h.mem x).2 ⟨hx, hall x hx⟩)]
end Go.Proofs.YtjmfiekgpoonjaaDoor
