/- Snaps: what is kept is found, mathematics. Written by wip/tools/gen14u.py. -/
import Derived.Test.YtbdfcgffkonbiaaDoorQSS1
namespace Go.Proofs.YtbdfcgffkonbiaaDoor
open Go Go.RowKit
set_option linter.unusedVariables false
set_option linter.unusedSimpArgs false
theorem at14_mem {M : List Sn} (h : isSn M = true) {y : Sn} (hy : y ∈ M) : atE M y.q = 0 ∧ atC M y.q = snA y := by
  obtain ⟨k, hk, rfl⟩ := List.getElem_of_mem hy
  have hs := isSn_srt h
  have h1 := (le_iff (q := M[k].q) hs hk).2 (Int.le_refl _)
  obtain ⟨m, hm1⟩ : ∃ m, leN M M[k].q = m + 1 := ⟨leN M M[k].q - 1, by omega⟩
  have hm : m < M.length := by have := leN_le M M[k].q; omega
  have h2 := (le_iff (q := M[k].q) hs hm).1 (by omega)
  have hkm : m = k := by
    rcases Nat.lt_or_eq_of_le (show k ≤ m by omega) with h4 | h4
    · have := hs k m hk hm h4; omega
    · exact h4.symm
  subst hkm
  obtain ⟨x1, x2, _⟩ := at14_eq h hm hm1 rfl
  exact ⟨x1, x2⟩
theorem at14_nomem {M : List Sn} {q : Int} (h : isSn M = true) (hn : ∀ y ∈ M, y.q ≠ q) : atE M q = 6 ∧ atC M q = zS := by
  by_cases h0 : leN M q = 0
  · obtain ⟨x1, x2, _⟩ := at14_none h h0; exact ⟨x1, x2⟩
  · obtain ⟨m, hm1⟩ : ∃ m, leN M q = m + 1 := ⟨leN M q - 1, by omega⟩
    have hm : m < M.length := by have := leN_le M q; omega
    obtain ⟨x1, x2, _⟩ := at14_ne h hm hm1 (hn _ (List.getElem_mem _))
    exact ⟨x1, x2⟩
theorem keep_ok {L : List Sn} {x : Sn} (h : keepE L x = 0) : isSn L = true ∧ isSn (keepL L x) = true ∧ ∀ i (hi : i < L.length), L[i].q < x.q := by
  unfold keepE at h
  cases hi : isSn L with
  | false => rw [if_pos hi] at h; cases h
  | true =>
    rw [if_neg (by rw [hi]; simp)] at h
    by_cases hc : 0 < L.length ∧ x.q ≤ (L.getD (L.length - 1) sn0).q
    · rw [if_pos hc] at h; cases h
    · rw [if_neg hc] at h
      refine ⟨rfl, by unfold isSn; rw [h]; rfl, fun i hil => ?_⟩
      obtain ⟨m, hm⟩ : ∃ m, L.length = m + 1 := ⟨L.length - 1, by omega⟩
      have hml : m < L.length := by omega
      rw [hm, Nat.add_sub_cancel, getD_at hml] at hc
      have h1 : ¬ x.q ≤ L[m].q := fun h9 => hc ⟨by omega, h9⟩
      rcases Nat.lt_or_eq_of_le (show i ≤ m by omega) with h4 | h4
      · have := isSn_srt hi i m hil hml h4; omega
      · subst h4; omega
theorem keep_stay {L : List Sn} {x : Sn} {i : Nat} (hi : i < L.length) (h : i ≠ 0 ∨ L.length ≠ 8) : L[i] ∈ keepL L x := by
  unfold keepL
  refine List.mem_append_left _ ?_
  by_cases h8 : L.length = 8
  · rw [if_pos h8]
    obtain ⟨j, rfl⟩ : ∃ j, i = j + 1 := ⟨i - 1, by omega⟩
    have : L[j + 1] = (L.drop 1)[j]'(by simp; omega) := by simp [Nat.add_comm]
    rw [this]; exact List.getElem_mem _
  · rw [if_neg h8]; exact List.getElem_mem _
theorem keep_gone {L : List Sn} {x : Sn} (h : isSn L = true) (h8 : L.length = 8) (hx : ∀ i (hi : i < L.length), L[i].q < x.q) (h0 : 0 < L.length) : ∀ y ∈ keepL L x, y.q ≠ L[0].q := by
  intro y hy
  unfold keepL at hy
  rw [if_pos h8] at hy
  rcases List.mem_append.1 hy with h1 | h1
  · obtain ⟨j, hj, rfl⟩ := List.getElem_of_mem h1
    have hj2 : j < L.length - 1 := by simpa using hj
    have := isSn_srt h 0 (j + 1) h0 (by omega) (by omega)
    have e : (L.drop 1)[j] = L[j + 1] := by simp [Nat.add_comm]
    rw [e]; omega
  · rw [List.mem_singleton.1 h1]; have := hx 0 h0; omega
theorem keep_new (L : List Sn) (x : Sn) : x ∈ keepL L x := by unfold keepL; simp
end Go.Proofs.YtbdfcgffkonbiaaDoor
