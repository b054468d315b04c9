/- Keys: which bytes and texts they are, how texts are ordered, the end of what begins with a text. Plain mathematics. -/
/- Values: what may be, which is ahead, sums and products that fit. Plain mathematics. -/
/- Leaves: items, which lists are leaves, what is put, deleted, got. Plain mathematics. -/
import Derived.Lib.Bytealg
import Derived.Lib.Bytes2
import Derived.IntWalk
import Derived.RowKit
namespace Go.Proofs.YtbdfcgffkonbiaaDoor
open Go Go.RowKit
set_option linter.unusedVariables false
set_option linter.unusedSimpArgs false
/-- May a key have a byte? -/
def okN (m : Nat) : Bool := decide ((97 ≤ m ∧ m ≤ 122) ∨ (48 ≤ m ∧ m ≤ 57) ∨ m = 45 ∨ m = 46 ∨ m = 47 ∨ m = 95)
theorem tab_ok0 : ∀ m, m < 64 → (bits BinOp.and IntKind.u64 ((288195191779622912 : Int) / 2 ^ m) 1 == 1) = okN m := by decide +kernel
theorem tab_ok1 : ∀ m, m < 64 → (bits BinOp.and IntKind.u64 ((576460745860972544 : Int) / 2 ^ m) 1 == 1) = okN (64 + m) := by decide +kernel
def okc (c : UInt8) : Bool := okN c.toNat
def patB (l : List UInt8) : Bool := decide (l.length ≤ 24) && l.all okc
def isB (l : List UInt8) : Bool := decide (0 < l.length) && patB l
theorem all_take {l : List UInt8} {k : Nat} (h : k < l.length) (ht : (l.take k).all okc = true) : (l.take (k + 1)).all okc = okc (l.getD k 0) := by
  rw [List.take_add_one, List.all_append, ht]
  simp [List.getD, h]
theorem all_no {l : List UInt8} {k : Nat} (h : k < l.length) (hc : okc (l.getD k 0) = false) : l.all okc = false := by
  rw [List.all_eq_false]
  refine ⟨l[k], List.getElem_mem h, ?_⟩
  simp [List.getD, h] at hc
  simp [hc]
/-- The one byte added to the last. -/
def shiftL (l : List UInt8) (d : Nat) : List UInt8 := if l = [] then [] else l.dropLast ++ [UInt8.ofNat ((l.getLastD 0).toNat + d)]
def endL (l : List UInt8) : List UInt8 := shiftL l 1
/-- Is a text ahead of another one? -/
def ltB (a b : List UInt8) : Bool := decide (Lib.compareBytes a b < 0)
open Lib in
theorem cb_self : ∀ a, compareBytes a a = 0
  | [] => rfl
  | x :: a => by unfold compareBytes; rw [if_neg (UInt8.lt_irrefl x), if_neg (UInt8.lt_irrefl x)]; exact cb_self a
open Lib in
theorem cb_zero : ∀ a b, compareBytes a b = 0 → a = b
  | [], [], _ => rfl
  | [], _ :: _, h => by simp [compareBytes] at h
  | _ :: _, [], h => by simp [compareBytes] at h
  | x :: a, y :: b, h => by
    unfold compareBytes at h
    split at h
    · simp at h
    · split at h
      · simp at h
      · rename_i h1 h2
        have e : x = y := UInt8.le_antisymm (UInt8.not_lt.1 h2) (UInt8.not_lt.1 h1)
        rw [e, cb_zero a b h]
open Lib in
theorem cb_flip : ∀ a b, compareBytes b a = - compareBytes a b
  | [], [] => rfl
  | [], _ :: _ => rfl
  | _ :: _, [] => rfl
  | x :: a, y :: b => by
    unfold compareBytes
    by_cases h1 : x < y
    · have h2 : ¬ y < x := fun h => UInt8.lt_irrefl x (UInt8.lt_trans h1 h)
      rw [if_pos h1, if_neg h2, if_pos h1]; rfl
    · by_cases h2 : y < x
      · rw [if_pos h2, if_neg h1, if_pos h2]
      · rw [if_neg h1, if_neg h2, if_neg h2, if_neg h1]; exact cb_flip a b
open Lib in
theorem cb_trans : ∀ a b c, compareBytes a b < 0 → compareBytes b c < 0 → compareBytes a c < 0
  | [], [], _, h, _ => by simp [compareBytes] at h
  | [], _ :: _, [], _, h => by simp [compareBytes] at h
  | [], _ :: _, _ :: _, _, _ => by simp [compareBytes]
  | _ :: _, [], _, h, _ => by simp [compareBytes] at h
  | _ :: _, _ :: _, [], _, h => by simp [compareBytes] at h
  | x :: a, y :: b, z :: c, h1, h2 => by
    unfold compareBytes at *
    by_cases xy : x < y
    · by_cases yz : y < z
      · rw [if_pos (UInt8.lt_trans xy yz)]; decide
      · rw [if_neg yz] at h2
        by_cases zy : z < y
        · rw [if_pos zy] at h2; simp at h2
        · have e : y = z := UInt8.le_antisymm (UInt8.not_lt.1 zy) (UInt8.not_lt.1 yz)
          subst e
          rw [if_pos xy]; decide
    · rw [if_neg xy] at h1
      by_cases yx : y < x
      · rw [if_pos yx] at h1; simp at h1
      · have e : x = y := UInt8.le_antisymm (UInt8.not_lt.1 yx) (UInt8.not_lt.1 xy)
        subst e
        rw [if_neg yx] at h1
        by_cases yz : x < z
        · rw [if_pos yz]; decide
        · rw [if_neg yz] at h2 ⊢
          by_cases zy : z < x
          · rw [if_pos zy] at h2; simp at h2
          · rw [if_neg zy] at h2 ⊢
            exact cb_trans a b c h1 h2
theorem lt_trans {a b c : List UInt8} (h1 : ltB a b = true) (h2 : ltB b c = true) : ltB a c = true := by
  unfold ltB at *
  simp only [decide_eq_true_eq] at *
  exact cb_trans a b c h1 h2
theorem lt_le {a b : List UInt8} (h : ltB a b = true) : ltB b a = false := by
  unfold ltB at *
  simp only [decide_eq_true_eq, decide_eq_false_iff_not] at *
  have := cb_flip a b
  omega
theorem lt_cons (x y : UInt8) (a b : List UInt8) : ltB (x :: a) (y :: b) = if x < y then true else if y < x then false else ltB a b := by
  have e : Lib.compareBytes (x :: a) (y :: b) = if x < y then -1 else if y < x then 1 else Lib.compareBytes a b := by rw [Lib.compareBytes]
  unfold ltB
  rw [e]
  split
  · simp
  · split
    · simp
    · rfl
theorem lt_nil (a : List UInt8) : ltB a [] = false := by cases a <;> simp [ltB, Lib.compareBytes]
theorem nil_lt (x : UInt8) (a : List UInt8) : ltB [] (x :: a) = true := by simp [ltB, Lib.compareBytes]
theorem less_cmp : ∀ a b : List UInt8, Op.bytesLess a b = ltB a b
  | [], [] => rfl
  | [], _ :: _ => rfl
  | _ :: _, [] => rfl
  | x :: a, y :: b => by
    rw [lt_cons, ← less_cmp a b, Op.bytesLess]
    by_cases h : x < y
    · simp [h]
    · by_cases h2 : y < x
      · have e : (x == y) = false := by rw [beq_eq_false_iff_ne]; intro e; subst e; exact h h2
        simp [h, h2, e]
      · have e : x = y := UInt8.le_antisymm (UInt8.not_lt.1 h2) (UInt8.not_lt.1 h)
        subst e
        simp
theorem lt_drop : ∀ (k : Nat) (a b : List UInt8), k ≤ a.length → k ≤ b.length → a.take k = b.take k → ltB a b = ltB (a.drop k) (b.drop k)
  | 0, a, b, _, _, _ => by simp
  | k + 1, [], b, h, _, _ => by simp at h
  | k + 1, _ :: _, [], _, h, _ => by simp at h
  | k + 1, x :: a, y :: b, h1, h2, h => by
    simp only [List.take_succ_cons, List.cons.injEq] at h
    obtain ⟨rfl, h⟩ := h
    rw [lt_cons, if_neg (UInt8.lt_irrefl _), if_neg (UInt8.lt_irrefl _)]
    simp only [List.drop_succ_cons]
    exact lt_drop k a b (by simpa using h1) (by simpa using h2) h
theorem drop_getD (l : List UInt8) (k : Nat) (h : k < l.length) : l.drop k = l.getD k 0 :: l.drop (k + 1) := by
  rw [List.drop_eq_getElem_cons h]; simp [List.getD, h]
theorem lt_at {a b : List UInt8} {k : Nat} (ha : k < a.length) (hb : k < b.length) (h : a.take k = b.take k) (hne : (a.getD k 0).toNat ≠ (b.getD k 0).toNat) : ltB a b = decide ((a.getD k 0).toNat < (b.getD k 0).toNat) := by
  rw [lt_drop k a b (by omega) (by omega) h, drop_getD a k ha, drop_getD b k hb, lt_cons]
  simp only [UInt8.lt_iff_toNat_lt]
  by_cases h1 : (a.getD k 0).toNat < (b.getD k 0).toNat
  · rw [if_pos h1, decide_eq_true h1]
  · have h2 : (b.getD k 0).toNat < (a.getD k 0).toNat := by omega
    rw [if_neg h1, if_pos h2, decide_eq_false h1]
theorem lt_end {a b : List UInt8} {k : Nat} (ha : k ≤ a.length) (hb : k ≤ b.length) (h : a.take k = b.take k) (he : k = a.length ∨ k = b.length) : ltB a b = decide (a.length < b.length) := by
  rw [lt_drop k a b ha hb h]
  rcases he with rfl | rfl
  · rw [List.drop_length]
    by_cases h1 : a.length < b.length
    · rw [drop_getD b _ h1, nil_lt, decide_eq_true h1]
    · rw [List.drop_eq_nil_of_le (by omega), lt_nil, decide_eq_false h1]
  · rw [List.drop_length, lt_nil, decide_eq_false (by omega)]
theorem take_more {a b : List UInt8} {k : Nat} (ha : k < a.length) (hb : k < b.length) (h : a.take k = b.take k) (he : (a.getD k 0).toNat = (b.getD k 0).toNat) : a.take (k + 1) = b.take (k + 1) := by
  rw [List.take_add_one, List.take_add_one, h]
  have e : a.getD k 0 = b.getD k 0 := UInt8.toNat.inj he
  simp [List.getD, ha, hb] at e
  simp [ha, hb, e]
end Go.Proofs.YtbdfcgffkonbiaaDoor
namespace Go.Proofs.YtbdfcgffkonbiaaDoor.V7
open Go Go.RowKit
set_option linter.unusedVariables false
set_option linter.unusedSimpArgs false
/-- A value: its kind, its number, its text. -/
structure V where
  k : Int
  i : Int
  s : List UInt8
def V.Wf (a : V) : Prop := (-9223372036854775808 ≤ a.k ∧ a.k ≤ 9223372036854775807) ∧ (-9223372036854775808 ≤ a.i ∧ a.i ≤ 9223372036854775807)
def mayB (a : V) : Bool := decide ((a.k = 0 ∧ a.i = 0 ∧ a.s = []) ∨ (a.k = 1 ∧ (a.i = 0 ∨ a.i = 1) ∧ a.s = []) ∨ (a.k = 2 ∧ a.s = []) ∨ (a.k = 3 ∧ a.i = 0 ∧ a.s.length ≤ 64))
def sgn3 (a b : Int) : Int := if a < b then -1 else if b < a then 1 else 0
open Lib in
theorem cb_self : ∀ a, compareBytes a a = 0
  | [] => rfl
  | x :: a => by unfold compareBytes; rw [if_neg (UInt8.lt_irrefl x), if_neg (UInt8.lt_irrefl x)]; exact cb_self a
open Lib in
theorem cb_zero : ∀ a b, compareBytes a b = 0 → a = b
  | [], [], _ => rfl
  | [], _ :: _, h => by simp [compareBytes] at h
  | _ :: _, [], h => by simp [compareBytes] at h
  | x :: a, y :: b, h => by
    unfold compareBytes at h
    split at h
    · simp at h
    · split at h
      · simp at h
      · rename_i h1 h2
        have e : x = y := UInt8.le_antisymm (UInt8.not_lt.1 h2) (UInt8.not_lt.1 h1)
        rw [e, cb_zero a b h]
open Lib in
theorem cb_flip : ∀ a b, compareBytes b a = - compareBytes a b
  | [], [] => rfl
  | [], _ :: _ => rfl
  | _ :: _, [] => rfl
  | x :: a, y :: b => by
    unfold compareBytes
    by_cases h1 : x < y
    · have h2 : ¬ y < x := fun h => UInt8.lt_irrefl x (UInt8.lt_trans h1 h)
      rw [if_pos h1, if_neg h2, if_pos h1]; rfl
    · by_cases h2 : y < x
      · rw [if_pos h2, if_neg h1, if_pos h2]
      · rw [if_neg h1, if_neg h2, if_neg h2, if_neg h1]; exact cb_flip a b
open Lib in
theorem cb_trans : ∀ a b c, compareBytes a b < 0 → compareBytes b c < 0 → compareBytes a c < 0
  | [], [], _, h, _ => by simp [compareBytes] at h
  | [], _ :: _, [], _, h => by simp [compareBytes] at h
  | [], _ :: _, _ :: _, _, _ => by simp [compareBytes]
  | _ :: _, [], _, h, _ => by simp [compareBytes] at h
  | _ :: _, _ :: _, [], _, h => by simp [compareBytes] at h
  | x :: a, y :: b, z :: c, h1, h2 => by
    unfold compareBytes at *
    by_cases xy : x < y
    · by_cases yz : y < z
      · rw [if_pos (UInt8.lt_trans xy yz)]; decide
      · by_cases zy : z < y
        · rw [if_neg yz, if_pos zy] at h2; simp at h2
        · have e : y = z := UInt8.le_antisymm (UInt8.not_lt.1 zy) (UInt8.not_lt.1 yz)
          rw [← e, if_pos xy]; decide
    · by_cases yx : y < x
      · rw [if_neg xy, if_pos yx] at h1; simp at h1
      · have e : x = y := UInt8.le_antisymm (UInt8.not_lt.1 yx) (UInt8.not_lt.1 xy)
        subst e
        rw [if_neg xy, if_neg xy] at h1
        by_cases yz : x < z
        · rw [if_pos yz]; decide
        · by_cases zy : z < x
          · rw [if_neg yz, if_pos zy] at h2; simp at h2
          · rw [if_neg yz, if_neg zy] at h2 ⊢
            exact cb_trans a b c h1 h2
/-- How two values are to one another. -/
def ordV (a b : V) : Int := if sgn3 a.k b.k ≠ 0 then sgn3 a.k b.k else if sgn3 a.i b.i ≠ 0 then sgn3 a.i b.i else Lib.compareBytes a.s b.s
def fits (n : Int) : Prop := -9223372036854775808 ≤ n ∧ n ≤ 9223372036854775807
instance (n : Int) : Decidable (fits n) := by unfold fits; infer_instance
end Go.Proofs.YtbdfcgffkonbiaaDoor.V7
namespace Go.Proofs.YtbdfcgffkonbiaaDoor
open Go Go.RowKit
set_option linter.unusedVariables false
set_option linter.unusedSimpArgs false
set_option linter.unusedSectionVars false
structure It where
  key : List UInt8
  v : V7.V
  ver : Int
def It.Wf (x : It) : Prop := x.key.length ≤ maxLen ∧ x.v.s.length ≤ maxLen ∧ x.v.Wf ∧ (-9223372036854775808 ≤ x.ver ∧ x.ver ≤ 9223372036854775807)
def mayI (x : It) : Bool := isB x.key && (V7.mayB x.v && (decide (x.v.k ≠ 0) && (decide (0 ≤ x.ver) && decide (x.ver ≤ 2147483647))))
theorem It.ext' {x y : It} (h1 : x.key = y.key) (h2 : x.v = y.v) (h3 : x.ver = y.ver) : x = y := by cases x; cases y; simp_all
/-- What is wrong with a list behind a key, and where. -/
def chkGo : Option (List UInt8) → Nat → List It → Nat × Nat
  | _, _, [] => (0, 0)
  | p, i, x :: r => if mayI x = false then (1, i) else if (match p with | none => false | some q => !ltB q x.key) = true then (3, i) else chkGo (some x.key) (i + 1) r
def chkL (l : List It) : Nat × Nat := if 64 < l.length then (5, 64) else chkGo none 0 l
def prevK (l : List It) (i : Nat) : Option (List UInt8) := if i = 0 then none else (l[i - 1]?).map It.key
theorem chk_end (l : List It) (i : Nat) (h : l.length ≤ i) : chkGo (prevK l i) i (l.drop i) = (0, 0) := by
  rw [List.drop_of_length_le h]; rfl
theorem chk_may (l : List It) (i : Nat) (h : i < l.length) (hm : mayI l[i] = false) : chkGo (prevK l i) i (l.drop i) = (1, i) := by
  rw [List.drop_eq_getElem_cons h]; unfold chkGo; rw [if_pos hm]
theorem prev_succ (l : List It) (i : Nat) (h : i < l.length) : prevK l (i + 1) = some l[i].key := by
  unfold prevK; simp [h]
theorem chk_ord (l : List It) (i : Nat) (h : i + 1 < l.length) (hm : mayI l[i + 1] = true) (ho : ltB l[i].key l[i + 1].key = false) : chkGo (prevK l (i + 1)) (i + 1) (l.drop (i + 1)) = (3, i + 1) := by
  rw [List.drop_eq_getElem_cons h, prev_succ l i (by omega)]; unfold chkGo; rw [if_neg (by simp [hm]), if_pos (by simp [ho])]
theorem chk_next0 (l : List It) (h : 0 < l.length) (hm : mayI l[0] = true) : chkGo (prevK l 0) 0 (l.drop 0) = chkGo (prevK l 1) 1 (l.drop 1) := by
  rw [List.drop_eq_getElem_cons h, prev_succ l 0 h]; conv => lhs; unfold chkGo
  rw [if_neg (by simp [hm])]; simp [prevK]
theorem chk_next (l : List It) (i : Nat) (h : i + 1 < l.length) (hm : mayI l[i + 1] = true) (ho : ltB l[i].key l[i + 1].key = true) : chkGo (prevK l (i + 1)) (i + 1) (l.drop (i + 1)) = chkGo (prevK l (i + 2)) (i + 2) (l.drop (i + 2)) := by
  rw [List.drop_eq_getElem_cons h, prev_succ l i (by omega), prev_succ l (i + 1) h]; conv => lhs; unfold chkGo
  rw [if_neg (by simp [hm]), if_neg (by simp [ho])]
theorem chk_start (l : List It) (h : l.length ≤ 64) : chkL l = chkGo (prevK l 0) 0 (l.drop 0) := by
  unfold chkL; rw [if_neg (by omega)]; rfl
theorem chk_big (l : List It) (h : 64 < l.length) : chkL l = (5, 64) := by unfold chkL; rw [if_pos h]
/-- Is it a leaf? -/
def isL (l : List It) : Bool := (chkL l).1 == 0
theorem chkGo_zero : ∀ (l : List It) (p : Option (List UInt8)) (i : Nat), (chkGo p i l).1 = 0 ↔ ((∀ x ∈ l, mayI x = true) ∧ (∀ q, p = some q → ∀ x ∈ l.head?, ltB q x.key = true) ∧ l.Pairwise (fun a b => ltB a.key b.key = true))
  | [], p, i => by simp [chkGo]
  | x :: r, p, i => by
    unfold chkGo
    cases hm : mayI x with
    | false => simp [hm]
    | true =>
      rw [if_neg (by simp)]
      have ih := chkGo_zero r (some x.key) (i + 1)
      have tail : ((∀ y ∈ r, mayI y = true) ∧ (∀ q, some x.key = some q → ∀ y ∈ r.head?, ltB q y.key = true) ∧ r.Pairwise (fun a b => ltB a.key b.key = true)) ↔ ((∀ y ∈ r, mayI y = true) ∧ (x :: r).Pairwise (fun a b => ltB a.key b.key = true)) := by
        rw [List.pairwise_cons]
        constructor
        · rintro ⟨h1, h2, h3⟩
          refine ⟨h1, ?_, h3⟩
          intro y hy
          cases r with
          | nil => simp at hy
          | cons z r =>
            have h4 := h2 _ rfl z (by simp)
            rcases List.mem_cons.1 hy with rfl | hy
            · exact h4
            · exact lt_trans h4 ((List.pairwise_cons.1 h3).1 y hy)
        · rintro ⟨h1, h2, h3⟩
          refine ⟨h1, ?_, h3⟩
          rintro q hq y hy
          cases hq
          exact h2 y (List.mem_of_mem_head? hy)
      cases p with
      | none =>
        rw [if_neg (by simp), ih, tail]
        simp [hm]
      | some q =>
        cases ho : ltB q x.key with
        | false => simp [ho]
        | true =>
          rw [if_neg (by simp [ho]), ih, tail]
          simp [hm, ho]
theorem isL_iff (l : List It) : isL l = true ↔ (l.length ≤ 64 ∧ (∀ x ∈ l, mayI x = true) ∧ l.Pairwise (fun a b => ltB a.key b.key = true)) := by
  unfold isL
  rw [beq_iff_eq]
  by_cases h : 64 < l.length
  · rw [chk_big l h]; simp; omega
  · unfold chkL
    rw [if_neg h, chkGo_zero]
    simp; omega
theorem isL_len {l : List It} (h : isL l = true) : l.length ≤ 64 := ((isL_iff l).1 h).1
theorem isL_may {l : List It} (h : isL l = true) : ∀ x ∈ l, mayI x = true := ((isL_iff l).1 h).2.1
theorem isL_sorted {l : List It} (h : isL l = true) : l.Pairwise (fun a b => ltB a.key b.key = true) := ((isL_iff l).1 h).2.2
theorem ltB_self (a : List UInt8) : ltB a a = false := by unfold ltB; rw [cb_self]; rfl
theorem ltB_tri {a b : List UInt8} (h1 : ltB a b = false) (h2 : ltB b a = false) : a = b := by
  unfold ltB at *
  simp only [decide_eq_false_iff_not] at *
  have := cb_flip a b
  exact cb_zero a b (by omega)
theorem ltB_ne {a b : List UInt8} (h : ltB a b = true) : a ≠ b := by rintro rfl; rw [ltB_self] at h; cases h
/-- Where a key stands, or would. -/
def posL (l : List It) (k : List UInt8) : Nat := (l.takeWhile (fun x => ltB x.key k)).length
def atL (l : List It) (k : List UInt8) : Option It := l.find? (fun x => decide (x.key = k))
def withoutL (l : List It) (k : List UInt8) : List It := l.filter (fun x => decide (x.key ≠ k))
def withL (l : List It) (x : It) : List It := l.filter (fun y => ltB y.key x.key) ++ x :: l.filter (fun y => ltB x.key y.key)
theorem posL_le (l : List It) (k : List UInt8) : posL l k ≤ l.length := by unfold posL; exact (List.takeWhile_prefix _).length_le
theorem posL_below (l : List It) (k : List UInt8) (i : Nat) (h : i < posL l k) (hi : i < l.length) : ltB l[i].key k = true := by
  unfold posL at h
  have h1 := (List.takeWhile_prefix (l := l) (fun x => ltB x.key k)).getElem h
  have h2 := List.all_eq_true.1 (List.all_takeWhile (l := l) (p := fun x => ltB x.key k)) _ (List.getElem_mem h)
  rw [h1] at h2
  exact h2
theorem sorted_at {l : List It} (hs : l.Pairwise (fun a b => ltB a.key b.key = true)) {i j : Nat} (hij : i < j) (hj : j < l.length) : ltB (l[i]'(by omega)).key l[j].key = true :=
  List.pairwise_iff_getElem.1 hs i j (by omega) hj hij
/-- The place is the one behind which nothing is ahead. -/
theorem posL_of {l : List It} {k : List UInt8} {p : Nat} (hp : p ≤ l.length) (h1 : ∀ i (hi : i < l.length), i < p → ltB l[i].key k = true) (h2 : ∀ h : p < l.length, ltB l[p].key k = false) : posL l k = p := by
  unfold posL
  have e : l = l.take p ++ l.drop p := (List.take_append_drop p l).symm
  have hall : ∀ x ∈ l.take p, ltB x.key k = true := by
    intro x hx
    obtain ⟨i, hi, rfl⟩ := List.getElem_of_mem hx
    rw [List.length_take] at hi
    rw [List.getElem_take]
    exact h1 i (by omega) (by omega)
  conv => lhs; rw [e]
  rw [List.takeWhile_append_of_pos hall]
  by_cases h : p < l.length
  · rw [List.drop_eq_getElem_cons h, List.takeWhile_cons_of_neg (by simp [h2 h])]
    simp; omega
  · rw [List.drop_of_length_le (by omega)]
    simp; omega
theorem filter_all {l : List It} {f : It → Bool} (h : ∀ x ∈ l, f x = true) : l.filter f = l := List.filter_eq_self.2 h
theorem filter_none {l : List It} {f : It → Bool} (h : ∀ x ∈ l, f x = false) : l.filter f = [] := List.filter_eq_nil_iff.2 (fun x hx => by simp [h x hx])
section
variable {l : List It} {k : List UInt8} (hs : l.Pairwise (fun a b => ltB a.key b.key = true))
include hs
theorem below_pos {i : Nat} (hi : i < l.length) (h : posL l k ≤ i) : ltB l[i].key k = false := by
  by_cases hp : posL l k < l.length
  · have h0 : ltB (l[posL l k]).key k = false := by
      cases hc : ltB (l[posL l k]).key k with
      | false => rfl
      | true =>
        exfalso
        have e : l = l.take (posL l k) ++ l.drop (posL l k) := (List.take_append_drop _ l).symm
        have hall : ∀ x ∈ l.take (posL l k), ltB x.key k = true := by
          intro x hx
          obtain ⟨i, hi, rfl⟩ := List.getElem_of_mem hx
          rw [List.length_take] at hi
          rw [List.getElem_take]
          exact posL_below l k i (by omega) (by omega)
        have h1 : posL l k = (l.takeWhile (fun x => ltB x.key k)).length := rfl
        have h2 : (l.takeWhile (fun x => ltB x.key k)) = l.take (posL l k) ++ (l.drop (posL l k)).takeWhile (fun x => ltB x.key k) := by
          conv => lhs; rw [e]
          rw [List.takeWhile_append_of_pos hall]
        rw [List.drop_eq_getElem_cons hp, List.takeWhile_cons, if_pos hc] at h2
        have h3 := congrArg List.length h2
        simp only [List.length_append, List.length_take, List.length_cons] at h3
        omega
    rcases Nat.lt_or_eq_of_le h with h1 | h1
    · have h2 := sorted_at hs h1 hi
      cases hc : ltB l[i].key k with
      | false => rfl
      | true => have := lt_trans h2 hc; rw [h0] at this; cases this
    · subst h1; exact h0
  · omega
theorem take_pos : l.take (posL l k) = l.filter (fun x => ltB x.key k) := by
  have e : l = l.take (posL l k) ++ l.drop (posL l k) := (List.take_append_drop _ l).symm
  conv => rhs; rw [e, List.filter_append]
  rw [filter_all, filter_none, List.append_nil]
  · intro x hx
    obtain ⟨i, hi, rfl⟩ := List.getElem_of_mem hx
    rw [List.length_drop] at hi
    rw [List.getElem_drop]
    exact below_pos hs (by omega) (by omega)
  · intro x hx
    obtain ⟨i, hi, rfl⟩ := List.getElem_of_mem hx
    rw [List.length_take] at hi
    rw [List.getElem_take]
    exact posL_below l k i (by omega) (by omega)
theorem pos_at (h : posL l k < l.length) (hk : l[posL l k].key = k) : atL l k = some l[posL l k] := by
  unfold atL
  rw [List.find?_eq_some_iff_getElem]
  refine ⟨by simp [hk], posL l k, h, rfl, fun j hj => ?_⟩
  simp
  exact ltB_ne (posL_below l k j hj (by omega))
theorem pos_none (h : ∀ h : posL l k < l.length, l[posL l k].key ≠ k) : ∀ x ∈ l, x.key ≠ k := by
  intro x hx
  obtain ⟨i, hi, rfl⟩ := List.getElem_of_mem hx
  rcases Nat.lt_trichotomy i (posL l k) with h1 | h1 | h1
  · exact ltB_ne (posL_below l k i h1 hi)
  · subst h1; exact h hi
  · have h0 : ltB (l[posL l k]).key k = false := below_pos hs (by omega) (Nat.le_refl _)
    have h2 := sorted_at hs h1 hi
    intro e
    rw [e] at h2
    rw [h2] at h0; cases h0
theorem at_none (h : ∀ h : posL l k < l.length, l[posL l k].key ≠ k) : atL l k = none := by
  unfold atL
  rw [List.find?_eq_none]
  intro x hx
  simp [pos_none hs h x hx]
theorem drop_in (h : posL l k < l.length) (hk : l[posL l k].key = k) : l.drop (posL l k + 1) = l.filter (fun x => ltB k x.key) := by
  have e : l = l.take (posL l k + 1) ++ l.drop (posL l k + 1) := (List.take_append_drop _ l).symm
  conv => rhs; rw [e, List.filter_append]
  rw [filter_none, filter_all, List.nil_append]
  · intro x hx
    obtain ⟨i, hi, rfl⟩ := List.getElem_of_mem hx
    rw [List.length_drop] at hi
    rw [List.getElem_drop]
    have h2 := sorted_at hs (i := posL l k) (j := posL l k + 1 + i) (by omega) (by omega)
    rwa [hk] at h2
  · intro x hx
    obtain ⟨i, hi, rfl⟩ := List.getElem_of_mem hx
    rw [List.length_take] at hi
    rw [List.getElem_take]
    rcases Nat.lt_or_eq_of_le (show i ≤ posL l k by omega) with h1 | h1
    · exact lt_le (posL_below l k i h1 (by omega))
    · subst h1; rw [hk]; exact ltB_self _
theorem drop_out (h : ∀ h : posL l k < l.length, l[posL l k].key ≠ k) : l.drop (posL l k) = l.filter (fun x => ltB k x.key) := by
  have e : l = l.take (posL l k) ++ l.drop (posL l k) := (List.take_append_drop _ l).symm
  conv => rhs; rw [e, List.filter_append]
  rw [filter_none, filter_all, List.nil_append]
  · intro x hx
    have hne := pos_none hs h x (List.mem_of_mem_drop hx)
    obtain ⟨i, hi, rfl⟩ := List.getElem_of_mem hx
    rw [List.length_drop] at hi
    rw [List.getElem_drop] at hne ⊢
    have h0 : ltB (l[posL l k + i]).key k = false := below_pos hs (by omega) (by omega)
    cases hc : ltB k (l[posL l k + i]).key with
    | true => rfl
    | false => exact absurd (ltB_tri h0 hc) hne
  · intro x hx
    obtain ⟨i, hi, rfl⟩ := List.getElem_of_mem hx
    rw [List.length_take] at hi
    rw [List.getElem_take]
    exact lt_le (posL_below l k i (by omega) (by omega))
theorem without_in (h : posL l k < l.length) (hk : l[posL l k].key = k) : l.take (posL l k) ++ l.drop (posL l k + 1) = withoutL l k := by
  rw [take_pos hs, drop_in hs h hk]
  unfold withoutL
  have e : l = l.take (posL l k) ++ l[posL l k] :: l.drop (posL l k + 1) := by
    rw [← List.drop_eq_getElem_cons h]; exact (List.take_append_drop _ l).symm
  conv => rhs; rw [e, List.filter_append, List.filter_cons_of_neg (by simp [hk])]
  rw [filter_all (l := l.take (posL l k)), filter_all (l := l.drop (posL l k + 1)), take_pos hs, drop_in hs h hk]
  · intro x hx
    rw [drop_in hs h hk] at hx
    have := (List.mem_filter.1 hx).2
    simp; exact fun e => ltB_ne this e.symm
  · intro x hx
    rw [take_pos hs] at hx
    have := (List.mem_filter.1 hx).2
    simp; exact ltB_ne this
end
theorem with_in {l : List It} (hs : l.Pairwise (fun a b => ltB a.key b.key = true)) (x : It) (h : posL l x.key < l.length) (hk : l[posL l x.key].key = x.key) : l.take (posL l x.key) ++ [x] ++ l.drop (posL l x.key + 1) = withL l x := by
  rw [take_pos hs, drop_in hs h hk]; unfold withL; simp
theorem with_same {l : List It} (hs : l.Pairwise (fun a b => ltB a.key b.key = true)) (x : It) (h : posL l x.key < l.length) (hk : l[posL l x.key] = x) : l = withL l x := by
  rw [← with_in hs x h (by rw [hk])]
  conv => lhs; rw [← List.take_append_drop (posL l x.key) l, List.drop_eq_getElem_cons h, hk]
  simp
theorem with_out {l : List It} (hs : l.Pairwise (fun a b => ltB a.key b.key = true)) (x : It) (h : ∀ h : posL l x.key < l.length, l[posL l x.key].key ≠ x.key) : l.take (posL l x.key) ++ [x] ++ l.drop (posL l x.key) = withL l x := by
  rw [take_pos hs, drop_out hs h]; unfold withL; simp
end Go.Proofs.YtbdfcgffkonbiaaDoor
