/- Values: what bytes are read as: the cuts, joined; the document's bytes of a value. -/
import Derived.Test.YthakimgpaemfeaaV07Z3
namespace Go.Proofs.Ythakimgpaemfeaa
open Go Go.RowKit
set_option linter.unusedVariables false
set_option linter.unusedSimpArgs false
theorem u8_cases (c : UInt8) : c = 0 ∨ c = 1 ∨ c = 2 ∨ c = 3 ∨ 3 < c.toNat := by
  have h := c.toNat_lt
  rcases (show c.toNat = 0 ∨ c.toNat = 1 ∨ c.toNat = 2 ∨ c.toNat = 3 ∨ 3 < c.toNat by omega) with h | h | h | h | h
  · exact .inl (UInt8.toNat.inj h)
  · exact .inr (.inl (UInt8.toNat.inj h))
  · exact .inr (.inr (.inl (UInt8.toNat.inj h)))
  · exact .inr (.inr (.inr (.inl (UInt8.toNat.inj h))))
  · exact .inr (.inr (.inr (.inr h)))
theorem cutVL_big {c : UInt8} {r : List UInt8} (h : 3 < c.toNat) : cutVL (c :: r) = ((0, 0, []), 0, 3) := by
  have h0 : c ≠ 0 := by intro e; subst e; simp at h
  have h1 : c ≠ 1 := by intro e; subst e; simp at h
  have h2 : c ≠ 2 := by intro e; subst e; simp at h
  have h3 : c ≠ 3 := by intro e; subst e; simp at h
  simp only [cutVL, if_neg h0, if_neg h1, if_neg h2, if_neg h3]
theorem cutVL_1_no {d : UInt8} {r : List UInt8} (h : 1 < d.toNat) : cutVL (1 :: d :: r) = ((0, 0, []), 0, 3) := by
  simp [cutVL, h]
theorem cutVL_1_yes {d : UInt8} {r : List UInt8} (h : ¬ 1 < d.toNat) : cutVL (1 :: d :: r) = ((1, (d.toNat : Int), []), 2, 0) := by
  simp [cutVL, h]
theorem cutVL_2 {r : List UInt8} {x n e : Nat} (h : cutL r = (x, n, e)) : cutVL (2 :: r) = if e ≠ 0 then ((0, 0, []), 0, e) else ((2, unzig x, []), n + 1, 0) := by
  simp [cutVL, h]
theorem cutVL_3 {r : List UInt8} {s : List UInt8} {n e : Nat} (h : cutTextL r = (s, n, e)) : cutVL (3 :: r) = if e ≠ 0 then ((0, 0, []), 0, e) else if 64 < s.length then ((0, 0, []), 0, 5) else ((3, 0, s), n + 1, 0) := by
  simp [cutVL, h]
theorem bne_int {e : Nat} (h : e ≠ 0) : ((e : Int) != 0) = true ∧ ((e : Int) == 0) = false := by
  constructor
  · simpa using h
  · simpa using h
/-- The program's cut. -/
theorem cutV_any (v : Value) (l : List UInt8) (w : World) (h : Rd w v l) :
    Calls Try.prog 33 #[v] w fun e w' => e = .returned (cutT (cutVL l)) ∧ Below w.heap.size w w' := by
  cases l with
  | nil => exact cutV_nil v w h
  | cons c r =>
    rcases u8_cases c with rfl | rfl | rfl | rfl | hc
    · exact cutV_0 v r w h
    · cases r with
      | nil => exact cutV_1_no v [] 0 0 2 w h (by omega) (by omega) rfl (fun v w h => cutBool_at v [] w h)
      | cons d r =>
        by_cases hd : 1 < d.toNat
        · rw [cutVL_1_no hd]
          refine cutV_1_no v (d :: r) 0 0 3 w h (by omega) (by omega) rfl (fun v w h => ?_)
          have := cutBool_at v (d :: r) w h
          rw [show cutBoolV (d :: r) = _ from if_pos hd] at this
          exact this
        · rw [cutVL_1_yes hd]
          refine cutV_1_yes v (d :: r) d.toNat 1 0 w h (by omega) (by omega) (fun v w h => ?_)
          have := cutBool_at v (d :: r) w h
          rw [show cutBoolV (d :: r) = _ from if_neg hd] at this
          exact this
    · obtain ⟨x, n, e, hc⟩ : ∃ x n e, cutL r = (x, n, e) := ⟨_, _, _, rfl⟩
      have hf := cutL_facts hc
      rw [cutVL_2 hc]
      by_cases he : e = 0
      · subst he
        rw [if_neg (by simp)]
        exact cutV_2_yes v r (unzig x) n 0 w h (by omega) (by omega) (fun v w h => cutInt_at v r x n 0 hc w h)
      · rw [if_pos he]
        exact cutV_2_no v r (unzig x) n e w h (by omega) (by omega) (bne_int he).1 (fun v w h => cutInt_at v r x n e hc w h)
    · obtain ⟨s, n, e, hc⟩ : ∃ s n e, cutTextL r = (s, n, e) := ⟨_, _, _, rfl⟩
      have hf := cutTextL_len hc
      rw [cutVL_3 hc]
      have T := fun v w h => cutText8 v r s n e hc w h
      by_cases he : e = 0
      · subst he
        rw [if_neg (by simp)]
        by_cases hs : 64 < s.length
        · rw [if_pos hs]
          simp only [if_pos hs] at T
          exact cutV_3_no v r [] 0 5 w h (by omega) (by omega) rfl T
        · rw [if_neg hs]
          simp only [if_neg hs] at T
          exact cutV_3_yes v r s n 0 w h (by omega) (by omega) T
      · rw [if_pos he]
        obtain ⟨rfl, rfl⟩ := cutTextL_err hc he
        simp only [if_neg (show ¬ 64 < ([] : List UInt8).length by simp)] at T
        exact cutV_3_no v r [] 0 e w h (by omega) (by omega) (bne_int he).1 T
    · rw [cutVL_big hc]
      exact cutV_big v c r w h hc
/-- The document's. -/
theorem refCutV_any (l : List UInt8) (hl : l.length ≤ 2000) (w : World) :
    Calls Try.prog 34 #[.string (str l)] w fun e w' => e = .returned (cutT (cutVL l)) ∧ Below w.heap.size w w' := by
  have hlm : l.length ≤ maxLen := by unfold maxLen; omega
  cases l with
  | nil => exact refCutV_nil w
  | cons c r =>
    rw [List.length_cons] at hl hlm
    have hr : r.length ≤ maxLen := by omega
    rcases u8_cases c with rfl | rfl | rfl | rfl | hc
    · exact refCutV_0 r w hr
    · cases r with
      | nil => exact refCutV_1_nil w
      | cons d r =>
        rw [List.length_cons] at hr hlm
        by_cases hd : 1 < d.toNat
        · rw [cutVL_1_no hd]
          exact refCutV_1_no d r w (by omega) (by omega) hd
        · rw [cutVL_1_yes hd]
          rcases (show d.toNat = 0 ∨ d.toNat = 1 by omega) with h | h
          · obtain rfl : d = 0 := UInt8.toNat.inj h
            exact refCutV_1_0 r w (by omega)
          · obtain rfl : d = 1 := UInt8.toNat.inj h
            exact refCutV_1_1 r w (by omega)
    · obtain ⟨x, n, e, hc⟩ : ∃ x n e, cutL r = (x, n, e) := ⟨_, _, _, rfl⟩
      have hf := cutL_facts hc
      rw [cutVL_2 hc]
      by_cases he : e = 0
      · subst he
        rw [if_neg (by simp)]
        exact refCutV_2_yes r (unzig x) n 0 w hr (by omega) (by omega) (fun w => refCutInt_at r x n 0 hc hr w)
      · rw [if_pos he]
        exact refCutV_2_no r (unzig x) n e w hr (by omega) (by omega) (bne_int he).1 (bne_int he).2 (fun w => refCutInt_at r x n e hc hr w)
    · obtain ⟨s, n, e, hc⟩ : ∃ s n e, cutTextL r = (s, n, e) := ⟨_, _, _, rfl⟩
      obtain ⟨x, m, c, hc0⟩ : ∃ x m c, cutL r = (x, m, c) := ⟨_, _, _, rfl⟩
      have hf := cutTextL_len hc
      rw [cutVL_3 hc]
      have T := fun w => refCutText_at r x m c hc0 (by omega) w
      rw [hc] at T
      by_cases he : e = 0
      · subst he
        rw [if_neg (by simp)]
        by_cases hs : 64 < s.length
        · rw [if_pos hs]
          exact refCutV_3_long r s n 0 w hr (by omega) (by omega) hs (by omega) T
        · rw [if_neg hs]
          exact refCutV_3_yes r s n 0 w hr (by omega) (by omega) (by omega) T
      · rw [if_pos he]
        obtain ⟨rfl, rfl⟩ := cutTextL_err hc he
        exact refCutV_3_no r [] 0 e w hr (by omega) (by omega) (bne_int he).1 (bne_int he).2 T
    · rw [cutVL_big hc]
      exact refCutV_big c r w hr hc
end Go.Proofs.Ythakimgpaemfeaa
