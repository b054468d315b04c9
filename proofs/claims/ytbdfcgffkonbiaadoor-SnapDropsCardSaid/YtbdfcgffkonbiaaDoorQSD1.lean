/- Snaps: what is left of a list, mathematics. Written by wip/tools/gen14r.py. -/
import Derived.Test.YtbdfcgffkonbiaaDoorQSN47
namespace Go.Proofs.YtbdfcgffkonbiaaDoor
open Go Go.RowKit
set_option linter.unusedVariables false
set_option linter.unusedSimpArgs false
/-- What is left, snap by snap, is what is left behind the place that is found. -/
theorem dropF_eq {L : List Sn} {q : Int} (h : isSn L = true) : dropF L q L.length = L.drop (dropN L q) := by
  have hs := isSn_srt h
  obtain ⟨m, hm, hmi⟩ : ∃ m, m ≤ L.length ∧ ∀ i (hi : i < L.length), (i < m ↔ L[i].q < q) := by
    obtain ⟨m, hm, hmi⟩ := le_split (q - 1) hs L.length (Nat.le_refl _)
    exact ⟨m, hm, fun i hi => (hmi i hi hi).trans ⟨fun h => by omega, fun h => by omega⟩⟩
  have hlt : ltN L q = m := take_len L m hm (fun i hi hin => decide_eq_true ((hmi i hi).1 hin)) (fun hn => decide_eq_false fun h => absurd ((hmi m hn).2 h) (by omega))
  have key : ∀ k, k ≤ L.length → dropF L q k = (L.take k).drop (dropN L q) := by
    intro k
    induction k with
    | zero => intro _; simp [dropF]
    | succ k ih =>
      intro hk
      have hkl : k < L.length := by omega
      have hmk := hmi k hkl
      rw [dropF_succ, ih (by omega), List.take_succ_eq_append_getElem hkl, getD_at hkl]
      unfold dropN
      rw [hlt]
      by_cases hc : q ≤ L[k].q ∨ k + 1 = L.length
      · have hle : min m (L.length - 1) ≤ k := by
          rcases hc with h1 | h1
          · have : ¬ k < m := fun h2 => by have := hmk.1 h2; omega
            omega
          · omega
        rw [if_pos hc, List.drop_append_of_le_length (by rw [List.length_take]; omega)]
      · have h1 : ¬ q ≤ L[k].q := fun h => hc (.inl h)
        have h2 : k + 1 ≠ L.length := fun h => hc (.inr h)
        have hkm : k < m := hmk.2 (by omega)
        have hle : k + 1 ≤ min m (L.length - 1) := by omega
        rw [if_neg hc, List.append_nil, List.drop_of_length_le (by rw [List.length_take]; omega), List.drop_of_length_le (by simp; omega)]
  rw [key L.length (Nat.le_refl _), List.take_length]
theorem ixQ_of {L : List Sn} {q : Int} (h : isSn L = true) : (atE L q = 0 → ∃ k, ∃ hk : k < L.length, L[k].q = q ∧ ixQ L q = k) ∧ (atE L q ≠ 0 → atE L q = 6 ∧ ixQ L q = -1) := by
  by_cases h0 : leN L q = 0
  · obtain ⟨x1, x2, x3⟩ := at14_none h h0
    exact ⟨fun h9 => (by rw [x1] at h9; cases h9), fun _ => ⟨x1, x3⟩⟩
  · obtain ⟨m, hm1⟩ : ∃ m, leN L q = m + 1 := ⟨leN L q - 1, by omega⟩
    have hm : m < L.length := by have := leN_le L q; omega
    by_cases hq : L[m].q = q
    · obtain ⟨x1, x2, x3⟩ := at14_eq h hm hm1 hq
      exact ⟨fun _ => ⟨m, hm, hq, x3⟩, fun h9 => absurd x1 h9⟩
    · obtain ⟨x1, x2, x3⟩ := at14_ne h hm hm1 hq
      exact ⟨fun h9 => (by rw [x1] at h9; cases h9), fun _ => ⟨x1, x3⟩⟩
theorem q_inj {L : List Sn} (hs : SrtQ L) {i j : Nat} (hi : i < L.length) (hj : j < L.length) (h : L[i].q = L[j].q) : i = j := by
  rcases Nat.lt_trichotomy i j with h1 | h1 | h1
  · have := hs i j hi hj h1; omega
  · exact h1
  · have := hs j i hj hi h1; omega
theorem eqSn_refl (L : List Sn) : EqSn L L := ⟨rfl, fun i h _ => ⟨rfl, rfl⟩⟩
theorem RdSn.drop {w : World} {L : List Sn} (h : RdSn w L) (n : Nat) : RdSn w (L.drop n) := fun x hx => h x (List.mem_of_mem_drop hx)
theorem LenSn.drop {L : List Sn} (h : LenSn L) (n : Nat) : LenSn (L.drop n) := fun x hx => h x (List.mem_of_mem_drop hx)
end Go.Proofs.YtbdfcgffkonbiaaDoor
