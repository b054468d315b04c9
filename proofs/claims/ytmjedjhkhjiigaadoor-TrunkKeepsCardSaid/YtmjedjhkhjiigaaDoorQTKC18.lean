/- Leaves: what is put is got, what is deleted is not, all else is as it was. Plain mathematics. -/
import Derived.Test.YtmjedjhkhjiigaaDoorQTKC17
namespace Go.Proofs.YtmjedjhkhjiigaaDoor
open Go Go.RowKit
set_option linter.unusedVariables false
set_option linter.unusedSimpArgs false
theorem at_mem {l : List It} (hs : l.Pairwise (fun a b => ltB a.key b.key = true)) {k : List UInt8} {y : It} : atL l k = some y ↔ (y ∈ l ∧ y.key = k) := by
  unfold atL
  constructor
  · intro h
    have h1 := List.find?_some h
    exact ⟨List.mem_of_find?_eq_some h, by simpa using h1⟩
  · rintro ⟨h1, h2⟩
    obtain ⟨i, hi, rfl⟩ := List.getElem_of_mem h1
    rw [List.find?_eq_some_iff_getElem]
    refine ⟨by simp [h2], i, hi, rfl, fun j hj => ?_⟩
    have h3 := ltB_ne (sorted_at hs hj hi)
    rw [h2] at h3
    simpa using h3
theorem with_mem {l : List It} {x y : It} : y ∈ withL l x ↔ ((y ∈ l ∧ ltB y.key x.key = true) ∨ y = x ∨ (y ∈ l ∧ ltB x.key y.key = true)) := by
  unfold withL
  simp only [List.mem_append, List.mem_cons, List.mem_filter]
theorem with_sorted {l : List It} (hs : l.Pairwise (fun a b => ltB a.key b.key = true)) (x : It) : (withL l x).Pairwise (fun a b => ltB a.key b.key = true) := by
  unfold withL
  rw [List.pairwise_append]
  refine ⟨hs.filter _, ?_, ?_⟩
  · rw [List.pairwise_cons]
    exact ⟨fun y hy => (List.mem_filter.1 hy).2, hs.filter _⟩
  · intro a ha b hb
    have h1 := (List.mem_filter.1 ha).2
    rcases List.mem_cons.1 hb with rfl | hb
    · exact h1
    · exact lt_trans h1 (List.mem_filter.1 hb).2
theorem putE_zero {l : List It} {x : It} (h : putE l x = 0) : isL l = true ∧ mayI x = true ∧ (foundL l x.key = true ∨ l.length < 64) := by
  unfold putE at h
  by_cases h1 : isL l = true ∧ mayI x = true
  · rw [if_pos h1] at h
    refine ⟨h1.1, h1.2, ?_⟩
    by_cases h2 : foundL l x.key = false ∧ l.length = 64
    · rw [if_pos h2] at h; omega
    · have := isL_len h1.1
      cases hf : foundL l x.key with
      | true => exact .inl rfl
      | false => exact .inr (by rw [hf] at h2; simp at h2; omega)
  · rw [if_neg h1] at h; omega
theorem with_len {l : List It} {x : It} (h : putE l x = 0) : (withL l x).length ≤ 64 := by
  obtain ⟨h1, h2, h3⟩ := putE_zero h
  have hs := isL_sorted h1
  have h64 := isL_len h1
  cases hf : foundL l x.key with
  | true =>
    obtain ⟨hp, hk⟩ := found_yes hf
    rw [← with_in hs x hp hk]
    simp; omega
  | false =>
    rw [← with_out hs x (found_no hf)]
    have := posL_le l x.key
    rw [hf] at h3
    simp at h3 ⊢; omega
theorem with_is {l : List It} {x : It} (h : putE l x = 0) : isL (withL l x) = true := by
  obtain ⟨h1, h2, h3⟩ := putE_zero h
  refine (isL_iff _).2 ⟨with_len h, fun y hy => ?_, with_sorted (isL_sorted h1) x⟩
  rcases with_mem.1 hy with ⟨hy, _⟩ | rfl | ⟨hy, _⟩
  · exact isL_may h1 y hy
  · exact h2
  · exact isL_may h1 y hy
theorem with_at {l : List It} {x : It} (h : putE l x = 0) : atL (withL l x) x.key = some x :=
  (at_mem (with_sorted (isL_sorted (putE_zero h).1) x)).2 ⟨with_mem.2 (.inr (.inl rfl)), rfl⟩
theorem with_other {l : List It} {x : It} (h : putE l x = 0) {k : List UInt8} (hk : k ≠ x.key) : atL (withL l x) k = atL l k := by
  have hs := isL_sorted (putE_zero h).1
  apply Option.ext
  intro y
  rw [at_mem (with_sorted hs x), at_mem hs, with_mem]
  constructor
  · rintro ⟨(⟨h1, _⟩ | rfl | ⟨h1, _⟩), h2⟩
    · exact ⟨h1, h2⟩
    · exact absurd h2.symm hk
    · exact ⟨h1, h2⟩
  · rintro ⟨h1, h2⟩
    refine ⟨?_, h2⟩
    cases h3 : ltB y.key x.key with
    | true => exact .inl ⟨h1, rfl⟩
    | false =>
      cases h4 : ltB x.key y.key with
      | true => exact .inr (.inr ⟨h1, rfl⟩)
      | false => exact absurd (h2.symm.trans (ltB_tri h3 h4)) hk
theorem delE_zero {l : List It} {k : List UInt8} (h : delE l k = 0) : isL l = true ∧ foundL l k = true := by
  unfold delE at h
  by_cases h1 : isL l = true
  · rw [if_pos h1] at h
    by_cases h2 : foundL l k = true
    · exact ⟨h1, h2⟩
    · rw [if_neg h2] at h; omega
  · rw [if_neg h1] at h; omega
theorem without_sorted {l : List It} (hs : l.Pairwise (fun a b => ltB a.key b.key = true)) (k : List UInt8) : (withoutL l k).Pairwise (fun a b => ltB a.key b.key = true) := hs.filter _
theorem without_len {l : List It} {k : List UInt8} (h : delE l k = 0) : (withoutL l k).length + 1 = l.length := by
  obtain ⟨h1, h2⟩ := delE_zero h
  obtain ⟨hp, hk⟩ := found_yes h2
  rw [← without_in (isL_sorted h1) hp hk]
  simp; omega
theorem without_is {l : List It} {k : List UInt8} (h : delE l k = 0) : isL (withoutL l k) = true := by
  obtain ⟨h1, h2⟩ := delE_zero h
  refine (isL_iff _).2 ⟨by have := without_len h; have := isL_len h1; omega, fun y hy => ?_, without_sorted (isL_sorted h1) k⟩
  exact isL_may h1 y (List.mem_filter.1 hy).1
theorem without_at {l : List It} {k : List UInt8} (h : delE l k = 0) : atL (withoutL l k) k = none := by
  unfold atL
  rw [List.find?_eq_none]
  intro y hy
  have := (List.mem_filter.1 hy).2
  simpa using this
theorem without_other {l : List It} {k' : List UInt8} (h : delE l k' = 0) {k : List UInt8} (hk : k ≠ k') : atL (withoutL l k') k = atL l k := by
  have hs := isL_sorted (delE_zero h).1
  apply Option.ext
  intro y
  rw [at_mem (without_sorted hs k'), at_mem hs]
  unfold withoutL
  rw [List.mem_filter]
  constructor
  · rintro ⟨⟨h1, _⟩, h2⟩; exact ⟨h1, h2⟩
  · rintro ⟨h1, h2⟩; exact ⟨⟨h1, by simp [h2, hk]⟩, h2⟩
def zI : It := ⟨[], ⟨0, 0, []⟩, 0⟩
def gI (l : List It) (k : List UInt8) : It := if isL l = true then (atL l k).getD zI else zI
def gB (l : List It) (k : List UInt8) : Bool := isL l && (atL l k).isSome
theorem getT_of (l : List It) (k : List UInt8) : getT l k = .tuple #[itV (gI l k), .bool (gB l k)] := by
  unfold getT gI gB
  cases hl : isL l with
  | false => rfl
  | true =>
    rw [if_pos rfl, if_pos rfl]
    cases atL l k <;> rfl
end Go.Proofs.YtmjedjhkhjiigaaDoor
