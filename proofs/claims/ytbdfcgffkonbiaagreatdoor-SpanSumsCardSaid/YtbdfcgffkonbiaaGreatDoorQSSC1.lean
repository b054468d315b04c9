/- Keys: which bytes and texts they are, how texts are ordered, the end of what begins with a text. Plain mathematics. -/
import Derived.Lib.Bytealg
import Derived.Lib.Bytes2
import Derived.IntWalk
import Derived.RowKit
namespace Go.Proofs.YtbdfcgffkonbiaaGreatDoor
open Go Go.RowKit
set_option linter.unusedVariables false
set_option linter.unusedSimpArgs false
/-- May a key have a byte? -/
def okN (m : Nat) : Bool := decide ((97 ≤ m ∧ m ≤ 122) ∨ (48 ≤ m ∧ m ≤ 57) ∨ m = 45 ∨ m = 46 ∨ m = 47 ∨ m = 95)
theorem tab_ok0 : ∀ m, m < 64 → (bits BinOp.and IntKind.u64 ((288195191779622912 : Int) / 2 ^ m) 1 == 1) = okN m := by decide +kernel
theorem tab_ok1 : ∀ m, m < 64 → (bits BinOp.and IntKind.u64 ((576460745860972544 : Int) / 2 ^ m) 1 == 1) = okN (64 + m) := by decide +kernel
def okc (c : UInt8) : Bool := okN c.toNat
theorem okc_le {c : UInt8} (h : okc c = true) : c.toNat ≤ 122 := by
  unfold okc okN at h
  simp only [decide_eq_true_eq] at h
  omega
def patB (l : List UInt8) : Bool := decide (l.length ≤ 24) && l.all okc
def isB (l : List UInt8) : Bool := decide (0 < l.length) && patB l
theorem all_take {l : List UInt8} {k : Nat} (h : k < l.length) (ht : (l.take k).all okc = true) : (l.take (k + 1)).all okc = okc (l.getD k 0) := by
  rw [List.take_add_one, List.all_append, ht]
  simp [List.getD, h]
theorem all_no {l : List UInt8} {k : Nat} (h : k < l.length) (hc : okc (l.getD k 0) = false) : l.all okc = false := by
  rw [List.all_eq_false]
  refine ⟨l[k], List.getElem_mem h, ?_⟩
  simp [List.getD, h] at hc
  simp [hc]
/-- The one byte added to the last. -/
def shiftL (l : List UInt8) (d : Nat) : List UInt8 := if l = [] then [] else l.dropLast ++ [UInt8.ofNat ((l.getLastD 0).toNat + d)]
def endL (l : List UInt8) : List UInt8 := shiftL l 1
/-- Is a text ahead of another one? -/
def ltB (a b : List UInt8) : Bool := decide (Lib.compareBytes a b < 0)
open Lib in
theorem cb_self : ∀ a, compareBytes a a = 0
  | [] => rfl
  | x :: a => by unfold compareBytes; rw [if_neg (UInt8.lt_irrefl x), if_neg (UInt8.lt_irrefl x)]; exact cb_self a
open Lib in
theorem cb_zero : ∀ a b, compareBytes a b = 0 → a = b
  | [], [], _ => rfl
  | [], _ :: _, h => by simp [compareBytes] at h
  | _ :: _, [], h => by simp [compareBytes] at h
  | x :: a, y :: b, h => by
    unfold compareBytes at h
    split at h
    · simp at h
    · split at h
      · simp at h
      · rename_i h1 h2
        have e : x = y := UInt8.le_antisymm (UInt8.not_lt.1 h2) (UInt8.not_lt.1 h1)
        rw [e, cb_zero a b h]
open Lib in
theorem cb_flip : ∀ a b, compareBytes b a = - compareBytes a b
  | [], [] => rfl
  | [], _ :: _ => rfl
  | _ :: _, [] => rfl
  | x :: a, y :: b => by
    unfold compareBytes
    by_cases h1 : x < y
    · have h2 : ¬ y < x := fun h => UInt8.lt_irrefl x (UInt8.lt_trans h1 h)
      rw [if_pos h1, if_neg h2, if_pos h1]; rfl
    · by_cases h2 : y < x
      · rw [if_pos h2, if_neg h1, if_pos h2]
      · rw [if_neg h1, if_neg h2, if_neg h2, if_neg h1]; exact cb_flip a b
open Lib in
theorem cb_trans : ∀ a b c, compareBytes a b < 0 → compareBytes b c < 0 → compareBytes a c < 0
  | [], [], _, h, _ => by simp [compareBytes] at h
  | [], _ :: _, [], _, h => by simp [compareBytes] at h
  | [], _ :: _, _ :: _, _, _ => by simp [compareBytes]
  | _ :: _, [], _, h, _ => by simp [compareBytes] at h
  | _ :: _, _ :: _, [], _, h => by simp [compareBytes] at h
  | x :: a, y :: b, z :: c, h1, h2 => by
    unfold compareBytes at *
    by_cases xy : x < y
    · by_cases yz : y < z
      · rw [if_pos (UInt8.lt_trans xy yz)]; decide
      · rw [if_neg yz] at h2
        by_cases zy : z < y
        · rw [if_pos zy] at h2; simp at h2
        · have e : y = z := UInt8.le_antisymm (UInt8.not_lt.1 zy) (UInt8.not_lt.1 yz)
          subst e
          rw [if_pos xy]; decide
    · rw [if_neg xy] at h1
      by_cases yx : y < x
      · rw [if_pos yx] at h1; simp at h1
      · have e : x = y := UInt8.le_antisymm (UInt8.not_lt.1 yx) (UInt8.not_lt.1 xy)
        subst e
        rw [if_neg yx] at h1
        by_cases yz : x < z
        · rw [if_pos yz]; decide
        · rw [if_neg yz] at h2 ⊢
          by_cases zy : z < x
          · rw [if_pos zy] at h2; simp at h2
          · rw [if_neg zy] at h2 ⊢
            exact cb_trans a b c h1 h2
theorem lt_trans {a b c : List UInt8} (h1 : ltB a b = true) (h2 : ltB b c = true) : ltB a c = true := by
  unfold ltB at *
  simp only [decide_eq_true_eq] at *
  exact cb_trans a b c h1 h2
theorem lt_le {a b : List UInt8} (h : ltB a b = true) : ltB b a = false := by
  unfold ltB at *
  simp only [decide_eq_true_eq, decide_eq_false_iff_not] at *
  have := cb_flip a b
  omega
/-- What is not ahead is behind, or the same. -/
theorem le_lt {a b c : List UInt8} (h1 : ltB b a = false) (h2 : ltB b c = true) : ltB a c = true := by
  by_cases e : a = b
  · rw [e]; exact h2
  · have h3 : ltB a b = true := by
      unfold ltB at *
      simp only [decide_eq_true_eq, decide_eq_false_iff_not] at *
      have := cb_flip a b
      have h4 : Lib.compareBytes a b ≠ 0 := fun h => e (cb_zero a b h)
      omega
    exact lt_trans h3 h2
theorem lt_cons (x y : UInt8) (a b : List UInt8) : ltB (x :: a) (y :: b) = if x < y then true else if y < x then false else ltB a b := by
  have e : Lib.compareBytes (x :: a) (y :: b) = if x < y then -1 else if y < x then 1 else Lib.compareBytes a b := by rw [Lib.compareBytes]
  unfold ltB
  rw [e]
  split
  · simp
  · split
    · simp
    · rfl
theorem lt_nil (a : List UInt8) : ltB a [] = false := by cases a <;> simp [ltB, Lib.compareBytes]
theorem nil_lt (x : UInt8) (a : List UInt8) : ltB [] (x :: a) = true := by simp [ltB, Lib.compareBytes]
theorem less_cmp : ∀ a b : List UInt8, Op.bytesLess a b = ltB a b
  | [], [] => rfl
  | [], _ :: _ => rfl
  | _ :: _, [] => rfl
  | x :: a, y :: b => by
    rw [lt_cons, ← less_cmp a b, Op.bytesLess]
    by_cases h : x < y
    · simp [h]
    · by_cases h2 : y < x
      · have e : (x == y) = false := by rw [beq_eq_false_iff_ne]; intro e; subst e; exact h h2
        simp [h, h2, e]
      · have e : x = y := UInt8.le_antisymm (UInt8.not_lt.1 h2) (UInt8.not_lt.1 h)
        subst e
        simp
theorem lt_drop : ∀ (k : Nat) (a b : List UInt8), k ≤ a.length → k ≤ b.length → a.take k = b.take k → ltB a b = ltB (a.drop k) (b.drop k)
  | 0, a, b, _, _, _ => by simp
  | k + 1, [], b, h, _, _ => by simp at h
  | k + 1, _ :: _, [], _, h, _ => by simp at h
  | k + 1, x :: a, y :: b, h1, h2, h => by
    simp only [List.take_succ_cons, List.cons.injEq] at h
    obtain ⟨rfl, h⟩ := h
    rw [lt_cons, if_neg (UInt8.lt_irrefl _), if_neg (UInt8.lt_irrefl _)]
    simp only [List.drop_succ_cons]
    exact lt_drop k a b (by simpa using h1) (by simpa using h2) h
theorem drop_getD (l : List UInt8) (k : Nat) (h : k < l.length) : l.drop k = l.getD k 0 :: l.drop (k + 1) := by
  rw [List.drop_eq_getElem_cons h]; simp [List.getD, h]
theorem lt_at {a b : List UInt8} {k : Nat} (ha : k < a.length) (hb : k < b.length) (h : a.take k = b.take k) (hne : (a.getD k 0).toNat ≠ (b.getD k 0).toNat) : ltB a b = decide ((a.getD k 0).toNat < (b.getD k 0).toNat) := by
  rw [lt_drop k a b (by omega) (by omega) h, drop_getD a k ha, drop_getD b k hb, lt_cons]
  simp only [UInt8.lt_iff_toNat_lt]
  by_cases h1 : (a.getD k 0).toNat < (b.getD k 0).toNat
  · rw [if_pos h1, decide_eq_true h1]
  · have h2 : (b.getD k 0).toNat < (a.getD k 0).toNat := by omega
    rw [if_neg h1, if_pos h2, decide_eq_false h1]
theorem lt_end {a b : List UInt8} {k : Nat} (ha : k ≤ a.length) (hb : k ≤ b.length) (h : a.take k = b.take k) (he : k = a.length ∨ k = b.length) : ltB a b = decide (a.length < b.length) := by
  rw [lt_drop k a b ha hb h]
  rcases he with rfl | rfl
  · rw [List.drop_length]
    by_cases h1 : a.length < b.length
    · rw [drop_getD b _ h1, nil_lt, decide_eq_true h1]
    · rw [List.drop_eq_nil_of_le (by omega), lt_nil, decide_eq_false h1]
  · rw [List.drop_length, lt_nil, decide_eq_false (by omega)]
theorem take_more {a b : List UInt8} {k : Nat} (ha : k < a.length) (hb : k < b.length) (h : a.take k = b.take k) (he : (a.getD k 0).toNat = (b.getD k 0).toNat) : a.take (k + 1) = b.take (k + 1) := by
  rw [List.take_add_one, List.take_add_one, h]
  have e : a.getD k 0 = b.getD k 0 := UInt8.toNat.inj he
  simp [List.getD, ha, hb] at e
  simp [ha, hb, e]
/-- What begins with a text lies between it and its end. -/
theorem end_prefix : ∀ (a k : List UInt8), a ≠ [] → a.all okc = true → k.all okc = true → ((!ltB k a) && ltB k (endL a)) = a.isPrefixOf k
  | [x], k, _, ha, hk => by
    have hx := okc_le (by simpa using ha : okc x = true)
    have he : endL [x] = [UInt8.ofNat (x.toNat + 1)] := rfl
    have hn : (UInt8.ofNat (x.toNat + 1)).toNat = x.toNat + 1 := by rw [UInt8.toNat_ofNat']; omega
    rw [he]
    cases k with
    | nil => simp [nil_lt, lt_nil]
    | cons y r =>
      rw [lt_cons, lt_cons]
      simp only [lt_nil, List.isPrefixOf_cons_cons, UInt8.lt_iff_toNat_lt, hn]
      by_cases h1 : y.toNat < x.toNat
      · have : (x == y) = false := by rw [beq_eq_false_iff_ne]; intro e; subst e; omega
        simp [h1, this]
      · by_cases h2 : x.toNat < y.toNat
        · have : (x == y) = false := by rw [beq_eq_false_iff_ne]; intro e; subst e; omega
          have h3 : ¬ y.toNat < x.toNat + 1 := by omega
          simp [h1, h2, h3, this]
        · have e : x = y := UInt8.toNat.inj (by omega)
          subst e
          simp
  | x :: z :: a, k, _, ha, hk => by
    have he : endL (x :: z :: a) = x :: endL (z :: a) := by
      simp [endL, shiftL, List.dropLast, List.getLastD]
    rw [he]
    cases k with
    | nil => simp [nil_lt]
    | cons y r =>
      rw [lt_cons, lt_cons]
      simp only [List.all_cons, Bool.and_eq_true] at ha hk
      have ih := end_prefix (z :: a) r (by simp) (by simp [ha]) hk.2
      simp only [List.isPrefixOf_cons_cons, UInt8.lt_iff_toNat_lt] at ih ⊢
      by_cases h1 : y.toNat < x.toNat
      · have : (x == y) = false := by rw [beq_eq_false_iff_ne]; intro e; subst e; omega
        simp [h1, this]
      · by_cases h2 : x.toNat < y.toNat
        · have : (x == y) = false := by rw [beq_eq_false_iff_ne]; intro e; subst e; omega
          simp [h1, h2, this]
        · have e : x = y := UInt8.toNat.inj (by omega)
          subst e
          simp only [Nat.lt_irrefl, if_false, beq_self_eq_true, Bool.true_and]
          exact ih
end Go.Proofs.YtbdfcgffkonbiaaGreatDoor
