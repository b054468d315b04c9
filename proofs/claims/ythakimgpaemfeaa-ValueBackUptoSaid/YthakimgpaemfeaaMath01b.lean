/- What is put is cut as it was, and what is cut has just these bytes: on lists of bytes. -/
import Derived.Test.YthakimgpaemfeaaMath01
namespace Go.Proofs.Ythakimgpaemfeaa
open Go.RowKit
set_option linter.unusedVariables false
set_option linter.unusedSimpArgs false
theorem ofNat_toNat {v : Nat} (h : v < 256) : (UInt8.ofNat v).toNat = v := by rw [UInt8.toNat_ofNat']; omega
theorem cutGo_put (n : Nat) : ∀ (k v a : Nat) (tail : List UInt8), k + n = 9 → v * 128 ^ k < 18446744073709551616 → (0 < k → v ≠ 0) →
    cutGo k a (putF n v ++ tail) = (a + v * 128 ^ k, k + (putF n v).length, 0) := by
  induction n with
  | zero =>
    intro k v a tail hk hv h0
    obtain rfl : k = 9 := by omega
    have hv1 : v ≤ 1 := by omega
    have hv0 := h0 (by omega)
    have hb : (UInt8.ofNat v).toNat = v := ofNat_toNat (by omega)
    simp only [putF, List.cons_append, List.nil_append, cutGo, hb]
    rw [if_neg (by omega), if_pos (by omega), if_neg (by omega)]
    rfl
  | succ n ih =>
    intro k v a tail hk hv h0
    unfold putF
    split
    · rename_i h128
      have hb : (UInt8.ofNat v).toNat = v := ofNat_toNat (by omega)
      simp only [List.cons_append, List.nil_append, cutGo, hb]
      rw [if_neg (by omega), if_pos (by omega), if_neg (by rintro ⟨h1, h2⟩; exact h0 h2 h1)]
      rfl
    · rename_i h128
      have hb : (UInt8.ofNat (v % 128 + 128)).toNat = v % 128 + 128 := ofNat_toNat (by omega)
      simp only [List.cons_append, cutGo, hb]
      rw [if_neg (by omega), if_neg (by omega), Nat.add_sub_cancel]
      have hp : v / 128 * 128 ^ (k + 1) < 18446744073709551616 := by
        rw [Nat.pow_succ, Nat.mul_comm (128 ^ k), ← Nat.mul_assoc]
        exact Nat.lt_of_le_of_lt (Nat.mul_le_mul_right _ (Nat.div_mul_le_self v 128)) hv
      rw [ih (k + 1) (v / 128) (a + v % 128 * 128 ^ k) tail (by omega) hp (by omega)]
      have e : v % 128 * 128 ^ k + v / 128 * 128 ^ (k + 1) = v * 128 ^ k := by
        rw [Nat.pow_succ, Nat.mul_comm (128 ^ k), ← Nat.mul_assoc, ← Nat.add_mul]
        congr 1; omega
      simp only [List.length_cons, Prod.mk.injEq, and_true]
      omega
theorem cut_put {v : Nat} (h : v < 18446744073709551616) (tail : List UInt8) : cutL (putL v ++ tail) = (v, (putL v).length, 0) := by
  have := cutGo_put 9 0 v 0 tail rfl (by simpa using h) (by omega)
  simpa [cutL, putL] using this
theorem put_cutGo (l : List UInt8) : ∀ (k a z m : Nat), k ≤ 9 → cutGo k a l = (z, m, 0) →
    ∃ v, z = a + v * 128 ^ k ∧ m = k + (putF (9 - k) v).length ∧ putF (9 - k) v = l.take (m - k) ∧ (0 < k → v ≠ 0) := by
  induction l with
  | nil => intro k a z m _ h; simp [cutGo] at h
  | cons b r ih =>
    intro k a z m hk h
    have hb := b.toNat_lt
    have hbb : UInt8.ofNat b.toNat = b := by simp
    unfold cutGo at h
    split at h
    · simp at h
    · rename_i h9
      split at h
      · rename_i h128
        split at h
        · simp at h
        · rename_i hz
          simp only [Prod.mk.injEq, and_true] at h
          obtain ⟨rfl, rfl⟩ := h
          have hp : putF (9 - k) b.toNat = [b] := by
            cases hq : 9 - k with
            | zero => simp [putF]
            | succ j => unfold putF; rw [if_pos h128, hbb]
          refine ⟨b.toNat, rfl, by rw [hp]; rfl, ?_, fun h0 h1 => hz ⟨h1, h0⟩⟩
          rw [hp, Nat.add_sub_cancel_left]; rfl
      · rename_i h128
        have hk9 : k < 9 := by
          rcases Nat.lt_or_ge k 9 with h' | h'
          · exact h'
          · exact absurd ⟨by omega, by omega⟩ h9
        obtain ⟨v, h1, h2, h3, h4⟩ := ih (k + 1) _ z m (by omega) h
        have hv := h4 (by omega)
        have e1 : ((b.toNat - 128) + 128 * v) / 128 = v := by omega
        have e2 : ((b.toNat - 128) + 128 * v) % 128 = b.toNat - 128 := by omega
        have hp : putF (9 - k) ((b.toNat - 128) + 128 * v) = b :: putF (9 - (k + 1)) v := by
          rw [show 9 - k = (9 - (k + 1)) + 1 from by omega, putF, if_neg (by omega), e1, e2, show b.toNat - 128 + 128 = b.toNat from by omega, hbb]
        refine ⟨(b.toNat - 128) + 128 * v, ?_, ?_, ?_, by omega⟩
        · rw [h1, Nat.pow_succ, Nat.add_mul, Nat.mul_comm 128 v, Nat.mul_comm (128 ^ k) 128, ← Nat.mul_assoc, Nat.add_assoc]
        · rw [hp, h2]; simp; omega
        · have hm : m - k = (m - (k + 1)) + 1 := by omega
          rw [hp, hm, List.take_succ_cons, h3]
theorem put_cut {l : List UInt8} {z m : Nat} (h : cutL l = (z, m, 0)) : putL z = l.take m ∧ m = (putL z).length := by
  obtain ⟨v, h1, h2, h3, _⟩ := put_cutGo l 0 0 z m (by omega) h
  have : z = v := by simpa using h1
  subst this
  exact ⟨by simpa [putL] using h3, by simpa [putL] using h2⟩
theorem put_inj {v w : Nat} (hv : v < 18446744073709551616) (hw : w < 18446744073709551616) {a b : List UInt8} (h : putL v ++ a = putL w ++ b) : v = w := by
  have h1 := cut_put hv a
  rw [h, cut_put hw b] at h1
  simpa using (congrArg Prod.fst h1).symm
/-- Of two unlike numbers neither one's bytes begin with the other's. -/
theorem put_apart {v w : Nat} (hv : v < 18446744073709551616) (hw : w < 18446744073709551616) (hne : v ≠ w) (n : Nat) (hn : n = min (putL v).length (putL w).length) : (putL v).take n ≠ (putL w).take n := by
  intro h
  apply hne
  rcases Nat.le_total (putL v).length (putL w).length with hl | hl
  · rw [Nat.min_eq_left hl] at hn
    subst hn
    rw [List.take_length] at h
    refine put_inj hv hw (a := (putL w).drop (putL v).length) (b := []) ?_
    rw [List.append_nil]
    conv => lhs; lhs; rw [h]
    exact List.take_append_drop _ _
  · rw [Nat.min_eq_right hl] at hn
    subst hn
    rw [List.take_length] at h
    refine put_inj hv hw (a := []) (b := (putL v).drop (putL w).length) ?_
    rw [List.append_nil]
    conv => rhs; lhs; rw [← h]
    exact (List.take_append_drop _ _).symm
end Go.Proofs.Ythakimgpaemfeaa
