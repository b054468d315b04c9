/- Values: what bytes are read as: the cuts, joined; the document's bytes of a value. -/
/- What is put is cut as it was, and what is cut has just these bytes: on lists of bytes. -/
import Derived.Test.YtcehgfganjdghaaDoorQLCC28
import Derived.Test.YtcehgfganjdghaaDoorQLCC16
namespace Go.Proofs.YtcehgfganjdghaaDoor.V7
open Go Go.RowKit
set_option linter.unusedVariables false
set_option linter.unusedSimpArgs false
theorem u8_cases (c : UInt8) : c = 0 ∨ c = 1 ∨ c = 2 ∨ c = 3 ∨ 3 < c.toNat := by
  have h := c.toNat_lt
  rcases (show c.toNat = 0 ∨ c.toNat = 1 ∨ c.toNat = 2 ∨ c.toNat = 3 ∨ 3 < c.toNat by omega) with h | h | h | h | h
  · exact .inl (UInt8.toNat.inj h)
  · exact .inr (.inl (UInt8.toNat.inj h))
  · exact .inr (.inr (.inl (UInt8.toNat.inj h)))
  · exact .inr (.inr (.inr (.inl (UInt8.toNat.inj h))))
  · exact .inr (.inr (.inr (.inr h)))
theorem cutVL_big {c : UInt8} {r : List UInt8} (h : 3 < c.toNat) : cutVL (c :: r) = ((0, 0, []), 0, 3) := by
  have h0 : c ≠ 0 := by intro e; subst e; simp at h
  have h1 : c ≠ 1 := by intro e; subst e; simp at h
  have h2 : c ≠ 2 := by intro e; subst e; simp at h
  have h3 : c ≠ 3 := by intro e; subst e; simp at h
  simp only [cutVL, if_neg h0, if_neg h1, if_neg h2, if_neg h3]
theorem cutVL_1_no {d : UInt8} {r : List UInt8} (h : 1 < d.toNat) : cutVL (1 :: d :: r) = ((0, 0, []), 0, 3) := by
  simp [cutVL, h]
theorem cutVL_1_yes {d : UInt8} {r : List UInt8} (h : ¬ 1 < d.toNat) : cutVL (1 :: d :: r) = ((1, (d.toNat : Int), []), 2, 0) := by
  simp [cutVL, h]
theorem cutVL_2 {r : List UInt8} {x n e : Nat} (h : cutL r = (x, n, e)) : cutVL (2 :: r) = if e ≠ 0 then ((0, 0, []), 0, e) else ((2, unzig x, []), n + 1, 0) := by
  simp [cutVL, h]
theorem cutVL_3 {r : List UInt8} {s : List UInt8} {n e : Nat} (h : cutTextL r = (s, n, e)) : cutVL (3 :: r) = if e ≠ 0 then ((0, 0, []), 0, e) else if 64 < s.length then ((0, 0, []), 0, 5) else ((3, 0, s), n + 1, 0) := by
  simp [cutVL, h]
theorem bne_int {e : Nat} (h : e ≠ 0) : ((e : Int) != 0) = true ∧ ((e : Int) == 0) = false := by
  constructor
  · simpa using h
  · simpa using h
/-- The program's cut. -/
theorem cutV_any (v : Value) (l : List UInt8) (w : World) (h : Rd w v l) :
    Calls Tryd.prog 91 #[v] w fun e w' => e = .returned (cutT (cutVL l)) ∧ Below w.heap.size w w' := by
  cases l with
  | nil => exact cutV_nil v w h
  | cons c r =>
    rcases u8_cases c with rfl | rfl | rfl | rfl | hc
    · exact cutV_0 v r w h
    · cases r with
      | nil => exact cutV_1_no v [] 0 0 2 w h (by omega) (by omega) rfl (fun v w h => cutBool_at v [] w h)
      | cons d r =>
        by_cases hd : 1 < d.toNat
        · rw [cutVL_1_no hd]
          refine cutV_1_no v (d :: r) 0 0 3 w h (by omega) (by omega) rfl (fun v w h => ?_)
          have := cutBool_at v (d :: r) w h
          rw [show cutBoolV (d :: r) = _ from if_pos hd] at this
          exact this
        · rw [cutVL_1_yes hd]
          refine cutV_1_yes v (d :: r) d.toNat 1 0 w h (by omega) (by omega) (fun v w h => ?_)
          have := cutBool_at v (d :: r) w h
          rw [show cutBoolV (d :: r) = _ from if_neg hd] at this
          exact this
    · obtain ⟨x, n, e, hc⟩ : ∃ x n e, cutL r = (x, n, e) := ⟨_, _, _, rfl⟩
      have hf := cutL_facts hc
      rw [cutVL_2 hc]
      by_cases he : e = 0
      · subst he
        rw [if_neg (by simp)]
        exact cutV_2_yes v r (unzig x) n 0 w h (by omega) (by omega) (fun v w h => cutInt_at v r x n 0 hc w h)
      · rw [if_pos he]
        exact cutV_2_no v r (unzig x) n e w h (by omega) (by omega) (bne_int he).1 (fun v w h => cutInt_at v r x n e hc w h)
    · obtain ⟨s, n, e, hc⟩ : ∃ s n e, cutTextL r = (s, n, e) := ⟨_, _, _, rfl⟩
      have hf := cutTextL_len hc
      rw [cutVL_3 hc]
      have T := fun v w h => cutText8 v r s n e hc w h
      by_cases he : e = 0
      · subst he
        rw [if_neg (by simp)]
        by_cases hs : 64 < s.length
        · rw [if_pos hs]
          simp only [if_pos hs] at T
          exact cutV_3_no v r [] 0 5 w h (by omega) (by omega) rfl T
        · rw [if_neg hs]
          simp only [if_neg hs] at T
          exact cutV_3_yes v r s n 0 w h (by omega) (by omega) T
      · rw [if_pos he]
        obtain ⟨rfl, rfl⟩ := cutTextL_err hc he
        simp only [if_neg (show ¬ 64 < ([] : List UInt8).length by simp)] at T
        exact cutV_3_no v r [] 0 e w h (by omega) (by omega) (bne_int he).1 T
    · rw [cutVL_big hc]
      exact cutV_big v c r w h hc
/-- The document's. -/
theorem refCutV_any (l : List UInt8) (hl : l.length ≤ 2000) (w : World) :
    Calls Tryd.prog 66 #[.string (str l)] w fun e w' => e = .returned (cutT (cutVL l)) ∧ Below w.heap.size w w' := by
  have hlm : l.length ≤ maxLen := by unfold maxLen; omega
  cases l with
  | nil => exact refCutV_nil w
  | cons c r =>
    rw [List.length_cons] at hl hlm
    have hr : r.length ≤ maxLen := by omega
    rcases u8_cases c with rfl | rfl | rfl | rfl | hc
    · exact refCutV_0 r w hr
    · cases r with
      | nil => exact refCutV_1_nil w
      | cons d r =>
        rw [List.length_cons] at hr hlm
        by_cases hd : 1 < d.toNat
        · rw [cutVL_1_no hd]
          exact refCutV_1_no d r w (by omega) (by omega) hd
        · rw [cutVL_1_yes hd]
          rcases (show d.toNat = 0 ∨ d.toNat = 1 by omega) with h | h
          · obtain rfl : d = 0 := UInt8.toNat.inj h
            exact refCutV_1_0 r w (by omega)
          · obtain rfl : d = 1 := UInt8.toNat.inj h
            exact refCutV_1_1 r w (by omega)
    · obtain ⟨x, n, e, hc⟩ : ∃ x n e, cutL r = (x, n, e) := ⟨_, _, _, rfl⟩
      have hf := cutL_facts hc
      rw [cutVL_2 hc]
      by_cases he : e = 0
      · subst he
        rw [if_neg (by simp)]
        exact refCutV_2_yes r (unzig x) n 0 w hr (by omega) (by omega) (fun w => refCutInt_at r x n 0 hc hr w)
      · rw [if_pos he]
        exact refCutV_2_no r (unzig x) n e w hr (by omega) (by omega) (bne_int he).1 (bne_int he).2 (fun w => refCutInt_at r x n e hc hr w)
    · obtain ⟨s, n, e, hc⟩ : ∃ s n e, cutTextL r = (s, n, e) := ⟨_, _, _, rfl⟩
      obtain ⟨x, m, c, hc0⟩ : ∃ x m c, cutL r = (x, m, c) := ⟨_, _, _, rfl⟩
      have hf := cutTextL_len hc
      rw [cutVL_3 hc]
      have T := fun w => refCutText_at r x m c hc0 (by omega) w
      rw [hc] at T
      by_cases he : e = 0
      · subst he
        rw [if_neg (by simp)]
        by_cases hs : 64 < s.length
        · rw [if_pos hs]
          exact refCutV_3_long r s n 0 w hr (by omega) (by omega) hs (by omega) T
        · rw [if_neg hs]
          exact refCutV_3_yes r s n 0 w hr (by omega) (by omega) (by omega) T
      · rw [if_pos he]
        obtain ⟨rfl, rfl⟩ := cutTextL_err hc he
        exact refCutV_3_no r [] 0 e w hr (by omega) (by omega) (bne_int he).1 (bne_int he).2 T
    · rw [cutVL_big hc]
      exact refCutV_big c r w hr hc
end Go.Proofs.YtcehgfganjdghaaDoor.V7
namespace Go.Proofs.YtcehgfganjdghaaDoor
open Go.RowKit
set_option linter.unusedVariables false
set_option linter.unusedSimpArgs false
theorem ofNat_toNat {v : Nat} (h : v < 256) : (UInt8.ofNat v).toNat = v := by rw [UInt8.toNat_ofNat']; omega
theorem cutGo_put (n : Nat) : ∀ (k v a : Nat) (tail : List UInt8), k + n = 9 → v * 128 ^ k < 18446744073709551616 → (0 < k → v ≠ 0) →
    cutGo k a (putF n v ++ tail) = (a + v * 128 ^ k, k + (putF n v).length, 0) := by
  induction n with
  | zero =>
    intro k v a tail hk hv h0
    obtain rfl : k = 9 := by omega
    have hv1 : v ≤ 1 := by omega
    have hv0 := h0 (by omega)
    have hb : (UInt8.ofNat v).toNat = v := ofNat_toNat (by omega)
    simp only [putF, List.cons_append, List.nil_append, cutGo, hb]
    rw [if_neg (by omega), if_pos (by omega), if_neg (by omega)]
    rfl
  | succ n ih =>
    intro k v a tail hk hv h0
    unfold putF
    split
    · rename_i h128
      have hb : (UInt8.ofNat v).toNat = v := ofNat_toNat (by omega)
      simp only [List.cons_append, List.nil_append, cutGo, hb]
      rw [if_neg (by omega), if_pos (by omega), if_neg (by rintro ⟨h1, h2⟩; exact h0 h2 h1)]
      rfl
    · rename_i h128
      have hb : (UInt8.ofNat (v % 128 + 128)).toNat = v % 128 + 128 := ofNat_toNat (by omega)
      simp only [List.cons_append, cutGo, hb]
      rw [if_neg (by omega), if_neg (by omega), Nat.add_sub_cancel]
      have hp : v / 128 * 128 ^ (k + 1) < 18446744073709551616 := by
        rw [Nat.pow_succ, Nat.mul_comm (128 ^ k), ← Nat.mul_assoc]
        exact Nat.lt_of_le_of_lt (Nat.mul_le_mul_right _ (Nat.div_mul_le_self v 128)) hv
      rw [ih (k + 1) (v / 128) (a + v % 128 * 128 ^ k) tail (by omega) hp (by omega)]
      have e : v % 128 * 128 ^ k + v / 128 * 128 ^ (k + 1) = v * 128 ^ k := by
        rw [Nat.pow_succ, Nat.mul_comm (128 ^ k), ← Nat.mul_assoc, ← Nat.add_mul]
        congr 1; omega
      simp only [List.length_cons, Prod.mk.injEq, and_true]
      omega
theorem cut_put {v : Nat} (h : v < 18446744073709551616) (tail : List UInt8) : cutL (putL v ++ tail) = (v, (putL v).length, 0) := by
  have := cutGo_put 9 0 v 0 tail rfl (by simpa using h) (by omega)
  simpa [cutL, putL] using this
theorem put_cutGo (l : List UInt8) : ∀ (k a z m : Nat), k ≤ 9 → cutGo k a l = (z, m, 0) →
    ∃ v, z = a + v * 128 ^ k ∧ m = k + (putF (9 - k) v).length ∧ putF (9 - k) v = l.take (m - k) ∧ (0 < k → v ≠ 0) := by
  induction l with
  | nil => intro k a z m _ h; simp [cutGo] at h
  | cons b r ih =>
    intro k a z m hk h
    have hb := b.toNat_lt
    have hbb : UInt8.ofNat b.toNat = b := by simp
    unfold cutGo at h
    split at h
    · simp at h
    · rename_i h9
      split at h
      · rename_i h128
        split at h
        · simp at h
        · rename_i hz
          simp only [Prod.mk.injEq, and_true] at h
          obtain ⟨rfl, rfl⟩ := h
          have hp : putF (9 - k) b.toNat = [b] := by
            cases hq : 9 - k with
            | zero => simp [putF]
            | succ j => unfold putF; rw [if_pos h128, hbb]
          refine ⟨b.toNat, rfl, by rw [hp]; rfl, ?_, fun h0 h1 => hz ⟨h1, h0⟩⟩
          rw [hp, Nat.add_sub_cancel_left]; rfl
      · rename_i h128
        have hk9 : k < 9 := by
          rcases Nat.lt_or_ge k 9 with h' | h'
          · exact h'
          · exact absurd ⟨by omega, by omega⟩ h9
        obtain ⟨v, h1, h2, h3, h4⟩ := ih (k + 1) _ z m (by omega) h
        have hv := h4 (by omega)
        have e1 : ((b.toNat - 128) + 128 * v) / 128 = v := by omega
        have e2 : ((b.toNat - 128) + 128 * v) % 128 = b.toNat - 128 := by omega
        have hp : putF (9 - k) ((b.toNat - 128) + 128 * v) = b :: putF (9 - (k + 1)) v := by
          rw [show 9 - k = (9 - (k + 1)) + 1 from by omega, putF, if_neg (by omega), e1, e2, show b.toNat - 128 + 128 = b.toNat from by omega, hbb]
        refine ⟨(b.toNat - 128) + 128 * v, ?_, ?_, ?_, by omega⟩
        · rw [h1, Nat.pow_succ, Nat.add_mul, Nat.mul_comm 128 v, Nat.mul_comm (128 ^ k) 128, ← Nat.mul_assoc, Nat.add_assoc]
        · rw [hp, h2]; simp; omega
        · have hm : m - k = (m - (k + 1)) + 1 := by omega
          rw [hp, hm, List.take_succ_cons, h3]
theorem put_cut {l : List UInt8} {z m : Nat} (h : cutL l = (z, m, 0)) : putL z = l.take m ∧ m = (putL z).length := by
  obtain ⟨v, h1, h2, h3, _⟩ := put_cutGo l 0 0 z m (by omega) h
  have : z = v := by simpa using h1
  subst this
  exact ⟨by simpa [putL] using h3, by simpa [putL] using h2⟩
theorem put_inj {v w : Nat} (hv : v < 18446744073709551616) (hw : w < 18446744073709551616) {a b : List UInt8} (h : putL v ++ a = putL w ++ b) : v = w := by
  have h1 := cut_put hv a
  rw [h, cut_put hw b] at h1
  simpa using (congrArg Prod.fst h1).symm
/-- Of two unlike numbers neither one's bytes begin with the other's. -/
theorem put_apart {v w : Nat} (hv : v < 18446744073709551616) (hw : w < 18446744073709551616) (hne : v ≠ w) (n : Nat) (hn : n = min (putL v).length (putL w).length) : (putL v).take n ≠ (putL w).take n := by
  intro h
  apply hne
  rcases Nat.le_total (putL v).length (putL w).length with hl | hl
  · rw [Nat.min_eq_left hl] at hn
    subst hn
    rw [List.take_length] at h
    refine put_inj hv hw (a := (putL w).drop (putL v).length) (b := []) ?_
    rw [List.append_nil]
    conv => lhs; lhs; rw [h]
    exact List.take_append_drop _ _
  · rw [Nat.min_eq_right hl] at hn
    subst hn
    rw [List.take_length] at h
    refine put_inj hv hw (a := []) (b := (putL v).drop (putL w).length) ?_
    rw [List.append_nil]
    conv => rhs; lhs; rw [← h]
    exact (List.take_append_drop _ _).symm
end Go.Proofs.YtcehgfganjdghaaDoor
