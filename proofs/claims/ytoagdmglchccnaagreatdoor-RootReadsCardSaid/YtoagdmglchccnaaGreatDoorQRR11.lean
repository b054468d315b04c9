/- A table of texts: what the row's listed variables give a walk: the table of powers; what the laws are handed. -/
/- A list and a table side by side; what is asked, opened. Written by wip/tools/gen2i.py. -/
/- Keys: which bytes and texts they are, how texts are ordered, the end of what begins with a text. Plain mathematics. -/
/- Values: what may be, which is ahead, sums and products that fit. Plain mathematics. -/
import Derived.Test.YtoagdmglchccnaaGreatDoorRows
import Derived.Test.YtoagdmglchccnaaGreatDoorQRR5
import Derived.ProofKit
import Derived.LaidMore
import Derived.OpenShut
import Derived.Stop.Joined
import Derived.SliceStrings
import Derived.Test.YtoagdmglchccnaaGreatDoorQRR7
import Derived.Lib.Bytealg
import Derived.Lib.Bytes2
import Derived.IntWalk
import Derived.RowKit
namespace Go.Proofs.YtoagdmglchccnaaGreatDoor.T2
open Go Go.ChangeShapes Go.WideShapes Go.ChangeAt Go.RowKit
set_option linter.unusedVariables false
set_option maxRecDepth 100000
def laid1 : List (String × DataW Unit) := [("math/bits.deBruijn32tab", Rows.laid_math_bits_deBruijn32tab), ("math/bits.deBruijn64tab", Rows.laid_math_bits_deBruijn64tab), ("internal/strconv.uint64pow10", Rows.laid_internal_strconv_uint64pow10)]
theorem pow_data {H : Type} : (Rows.laid_internal_strconv_uint64pow10 : DataW H) = Lib.tabData .u64 Lib.pow10Tab := by kernel_rfl
theorem gTy (g : Nat) (h : Tryz.prog.globalNamed "internal/strconv.uint64pow10" = some g) : (Tryz.prog.globals[g]?).map (·.type) = some 257 := by
  obtain rfl := Option.some.inj (h.symm.trans (by kernel_rfl : Tryz.prog.globalNamed "internal/strconv.uint64pow10" = some (Tryz.prog.globals.findIdx? (·.name == "internal/strconv.uint64pow10")).get!))
  kernel_rfl
section
variable {H : Type} {enc : TypeId × Value → H}
end
end Go.Proofs.YtoagdmglchccnaaGreatDoor.T2
namespace Go.Proofs.YtoagdmglchccnaaGreatDoor.T2
open Go Go.RowKit Go.Maps
open Go.ChangeShapes Go.WideShapes Go.ChangeAt
set_option linter.unusedVariables false
set_option linter.unusedSimpArgs false
structure Two (w : World) (base B M : Nat) (v : Value) (L : List Txt) (lv : Value) (K : List Txt) : Prop where
  tb : TB w base B M v L
  row : w.ownsRow base 9 1 lv K.length (K.map sv)
  ne : ∀ k, lv.ownBlock = some k → ¬ ownR B M v k
theorem own_trn {own : Nat → Prop} {w w' : World} {b : Nat} {e : TypeId} {size : Nat} {v : Value} {n : Nat} {xs : List Value} (h : w.ownsRow b e size v n xs) (t : Trn own w w') (hn : ∀ k, v.ownBlock = some k → ¬ own k) : w'.ownsRow b e size v n xs := by
  refine ⟨h.1, ?_⟩
  rcases h.2 with h1 | ⟨g, cap, cur, rfl, h2, h3, h4⟩
  · exact .inl h1
  · exact .inr ⟨g, cap, cur, rfl, h2, (t.block g (lt_of_block h3) (hn g rfl)).trans h3, h4⟩
theorem own_lt {w : World} {b : Nat} {e : TypeId} {size : Nat} {v : Value} {n : Nat} {xs : List Value} (h : w.ownsRow b e size v n xs) : ∀ k, v.ownBlock = some k → b ≤ k ∧ k < w.heap.size := fun k hk => by
  have := h.lt k hk
  exact this
theorem Two.of {w w' : World} {base B M : Nat} {v v' lv : Value} {L L' K : List Txt} (h : Two w base B M v L lv K) (tb : TB w' base B M v' L') (t : Trn (ownR B M v) w w') (hv : ∀ k, v'.ownBlock = some k → v.ownBlock = some k ∨ w.heap.size ≤ k) : Two w' base B M v' L' lv K := by
  refine ⟨tb, own_trn h.row t h.ne, fun k hk ho => ?_⟩
  rcases ho with e | e | e
  · exact h.ne k hk (.inl e)
  · exact h.ne k hk (.inr (.inl e))
  · rcases hv k e with e | e
    · exact h.ne k hk (.inr (.inr e))
    · have := (own_lt h.row k hk).2; omega
theorem Two.ref {w w' : World} {base B M : Nat} {v lv lv' : Value} {L K K' : List Txt} (h : Two w base B M v L lv K) (r : w'.ownsRow base 9 1 lv' K'.length (K'.map sv)) (t : Trn (fun k => lv.ownBlock = some k) w w') (hv : ∀ k, lv'.ownBlock = some k → lv.ownBlock = some k ∨ w.heap.size ≤ k) : Two w' base B M v L lv' K' := by
  have hlt : ∀ k, ownR B M v k → k < w.heap.size := by
    rintro k (rfl | rfl | e)
    · exact lt_of_block h.tb.blk
    · obtain ⟨es, clock, h3, _⟩ := h.tb.map; exact lt_of_block h3
    · exact (own_lt h.tb.row k e).2
  refine ⟨h.tb.kept fun k hk ho => t.block k hk fun e => h.ne k e ho, r, fun k hk ho => ?_⟩
  rcases hv k hk with e | e
  · exact h.ne k e ho
  · have := hlt k ho; omega
theorem Two.below {w w' : World} {base B M : Nat} {v lv : Value} {L K : List Txt} (h : Two w base B M v L lv K) (g : Below w.heap.size w w') : Two w' base B M v L lv K :=
  ⟨h.tb.below g, own_on h.row g (Nat.le_refl _), h.ne⟩
theorem Two.fresh {w : World} {base b2 B M : Nat} {v lv : Value} {L K : List Txt} (tb : TB w b2 B M v L) (r : w.ownsRow base 9 1 lv K.length (K.map sv)) (hb : base ≤ b2) (hn : ∀ k, lv.ownBlock = some k → ¬ ownR B M v k) : Two w base B M v L lv K :=
  ⟨⟨tb.nd, tb.wf, tb.len, Nat.le_trans hb tb.bB, Nat.le_trans hb tb.bM, tb.blk, tb.map, own_on tb.row (Below.refl _ _) hb⟩, r, hn⟩
/-- What is asked, one place after the other. -/
def RdActs (w : World) (v : Value) (n : Nat) : Prop := ∃ ao cap, v = .slice ao n cap ∧ n ≤ cap ∧ cap ≤ 9223372036854775807 ∧ Hid (∀ j, j < n → ∃ (b off : Nat) (d k : Int) (s : Txt) (z : Value) (xs : List Int), ao = some ⟨b, off, none⟩ ∧ b < w.heap.size ∧ w.cell? ⟨b, off + j * 4, none⟩ = some (.int .i64 d) ∧ w.cell? ⟨b, off + (j * 4 + 1), none⟩ = some (.int .i64 k) ∧ w.cell? ⟨b, off + (j * 4 + 2), none⟩ = some (.string (str s)) ∧ w.cell? ⟨b, off + (j * 4 + 3), none⟩ = some z ∧ s.length ≤ maxLen ∧ RdV w z (xs.map iv) ∧ (∀ x ∈ xs, fitsI x) ∧ fitsI k)
section
variable {H : Type} {enc : TypeId × Value → H}
end
end Go.Proofs.YtoagdmglchccnaaGreatDoor.T2
namespace Go.Proofs.YtoagdmglchccnaaGreatDoor
open Go Go.RowKit
set_option linter.unusedVariables false
set_option linter.unusedSimpArgs false
/-- May a key have a byte? -/
def okN (m : Nat) : Bool := decide ((97 ≤ m ∧ m ≤ 122) ∨ (48 ≤ m ∧ m ≤ 57) ∨ m = 45 ∨ m = 46 ∨ m = 47 ∨ m = 95)
theorem tab_ok0 : ∀ m, m < 64 → (bits BinOp.and IntKind.u64 ((288195191779622912 : Int) / 2 ^ m) 1 == 1) = okN m := by decide +kernel
theorem tab_ok1 : ∀ m, m < 64 → (bits BinOp.and IntKind.u64 ((576460745860972544 : Int) / 2 ^ m) 1 == 1) = okN (64 + m) := by decide +kernel
def okc (c : UInt8) : Bool := okN c.toNat
def patB (l : List UInt8) : Bool := decide (l.length ≤ 24) && l.all okc
def isB (l : List UInt8) : Bool := decide (0 < l.length) && patB l
theorem all_take {l : List UInt8} {k : Nat} (h : k < l.length) (ht : (l.take k).all okc = true) : (l.take (k + 1)).all okc = okc (l.getD k 0) := by
  rw [List.take_add_one, List.all_append, ht]
  simp [List.getD, h]
theorem all_no {l : List UInt8} {k : Nat} (h : k < l.length) (hc : okc (l.getD k 0) = false) : l.all okc = false := by
  rw [List.all_eq_false]
  refine ⟨l[k], List.getElem_mem h, ?_⟩
  simp [List.getD, h] at hc
  simp [hc]
/-- The one byte added to the last. -/
def shiftL (l : List UInt8) (d : Nat) : List UInt8 := if l = [] then [] else l.dropLast ++ [UInt8.ofNat ((l.getLastD 0).toNat + d)]
def endL (l : List UInt8) : List UInt8 := shiftL l 1
/-- Is a text ahead of another one? -/
def ltB (a b : List UInt8) : Bool := decide (Lib.compareBytes a b < 0)
open Lib in
theorem cb_self : ∀ a, compareBytes a a = 0
  | [] => rfl
  | x :: a => by unfold compareBytes; rw [if_neg (UInt8.lt_irrefl x), if_neg (UInt8.lt_irrefl x)]; exact cb_self a
open Lib in
theorem cb_zero : ∀ a b, compareBytes a b = 0 → a = b
  | [], [], _ => rfl
  | [], _ :: _, h => by simp [compareBytes] at h
  | _ :: _, [], h => by simp [compareBytes] at h
  | x :: a, y :: b, h => by
    unfold compareBytes at h
    split at h
    · simp at h
    · split at h
      · simp at h
      · rename_i h1 h2
        have e : x = y := UInt8.le_antisymm (UInt8.not_lt.1 h2) (UInt8.not_lt.1 h1)
        rw [e, cb_zero a b h]
open Lib in
theorem cb_flip : ∀ a b, compareBytes b a = - compareBytes a b
  | [], [] => rfl
  | [], _ :: _ => rfl
  | _ :: _, [] => rfl
  | x :: a, y :: b => by
    unfold compareBytes
    by_cases h1 : x < y
    · have h2 : ¬ y < x := fun h => UInt8.lt_irrefl x (UInt8.lt_trans h1 h)
      rw [if_pos h1, if_neg h2, if_pos h1]; rfl
    · by_cases h2 : y < x
      · rw [if_pos h2, if_neg h1, if_pos h2]
      · rw [if_neg h1, if_neg h2, if_neg h2, if_neg h1]; exact cb_flip a b
open Lib in
theorem cb_trans : ∀ a b c, compareBytes a b < 0 → compareBytes b c < 0 → compareBytes a c < 0
  | [], [], _, h, _ => by simp [compareBytes] at h
  | [], _ :: _, [], _, h => by simp [compareBytes] at h
  | [], _ :: _, _ :: _, _, _ => by simp [compareBytes]
  | _ :: _, [], _, h, _ => by simp [compareBytes] at h
  | _ :: _, _ :: _, [], _, h => by simp [compareBytes] at h
  | x :: a, y :: b, z :: c, h1, h2 => by
    unfold compareBytes at *
    by_cases xy : x < y
    · by_cases yz : y < z
      · rw [if_pos (UInt8.lt_trans xy yz)]; decide
      · rw [if_neg yz] at h2
        by_cases zy : z < y
        · rw [if_pos zy] at h2; simp at h2
        · have e : y = z := UInt8.le_antisymm (UInt8.not_lt.1 zy) (UInt8.not_lt.1 yz)
          subst e
          rw [if_pos xy]; decide
    · rw [if_neg xy] at h1
      by_cases yx : y < x
      · rw [if_pos yx] at h1; simp at h1
      · have e : x = y := UInt8.le_antisymm (UInt8.not_lt.1 yx) (UInt8.not_lt.1 xy)
        subst e
        rw [if_neg yx] at h1
        by_cases yz : x < z
        · rw [if_pos yz]; decide
        · rw [if_neg yz] at h2 ⊢
          by_cases zy : z < x
          · rw [if_pos zy] at h2; simp at h2
          · rw [if_neg zy] at h2 ⊢
            exact cb_trans a b c h1 h2
theorem lt_trans {a b c : List UInt8} (h1 : ltB a b = true) (h2 : ltB b c = true) : ltB a c = true := by
  unfold ltB at *
  simp only [decide_eq_true_eq] at *
  exact cb_trans a b c h1 h2
theorem lt_le {a b : List UInt8} (h : ltB a b = true) : ltB b a = false := by
  unfold ltB at *
  simp only [decide_eq_true_eq, decide_eq_false_iff_not] at *
  have := cb_flip a b
  omega
theorem lt_cons (x y : UInt8) (a b : List UInt8) : ltB (x :: a) (y :: b) = if x < y then true else if y < x then false else ltB a b := by
  have e : Lib.compareBytes (x :: a) (y :: b) = if x < y then -1 else if y < x then 1 else Lib.compareBytes a b := by rw [Lib.compareBytes]
  unfold ltB
  rw [e]
  split
  · simp
  · split
    · simp
    · rfl
theorem lt_nil (a : List UInt8) : ltB a [] = false := by cases a <;> simp [ltB, Lib.compareBytes]
theorem nil_lt (x : UInt8) (a : List UInt8) : ltB [] (x :: a) = true := by simp [ltB, Lib.compareBytes]
theorem less_cmp : ∀ a b : List UInt8, Op.bytesLess a b = ltB a b
  | [], [] => rfl
  | [], _ :: _ => rfl
  | _ :: _, [] => rfl
  | x :: a, y :: b => by
    rw [lt_cons, ← less_cmp a b, Op.bytesLess]
    by_cases h : x < y
    · simp [h]
    · by_cases h2 : y < x
      · have e : (x == y) = false := by rw [beq_eq_false_iff_ne]; intro e; subst e; exact h h2
        simp [h, h2, e]
      · have e : x = y := UInt8.le_antisymm (UInt8.not_lt.1 h2) (UInt8.not_lt.1 h)
        subst e
        simp
theorem lt_drop : ∀ (k : Nat) (a b : List UInt8), k ≤ a.length → k ≤ b.length → a.take k = b.take k → ltB a b = ltB (a.drop k) (b.drop k)
  | 0, a, b, _, _, _ => by simp
  | k + 1, [], b, h, _, _ => by simp at h
  | k + 1, _ :: _, [], _, h, _ => by simp at h
  | k + 1, x :: a, y :: b, h1, h2, h => by
    simp only [List.take_succ_cons, List.cons.injEq] at h
    obtain ⟨rfl, h⟩ := h
    rw [lt_cons, if_neg (UInt8.lt_irrefl _), if_neg (UInt8.lt_irrefl _)]
    simp only [List.drop_succ_cons]
    exact lt_drop k a b (by simpa using h1) (by simpa using h2) h
theorem drop_getD (l : List UInt8) (k : Nat) (h : k < l.length) : l.drop k = l.getD k 0 :: l.drop (k + 1) := by
  rw [List.drop_eq_getElem_cons h]; simp [List.getD, h]
theorem lt_at {a b : List UInt8} {k : Nat} (ha : k < a.length) (hb : k < b.length) (h : a.take k = b.take k) (hne : (a.getD k 0).toNat ≠ (b.getD k 0).toNat) : ltB a b = decide ((a.getD k 0).toNat < (b.getD k 0).toNat) := by
  rw [lt_drop k a b (by omega) (by omega) h, drop_getD a k ha, drop_getD b k hb, lt_cons]
  simp only [UInt8.lt_iff_toNat_lt]
  by_cases h1 : (a.getD k 0).toNat < (b.getD k 0).toNat
  · rw [if_pos h1, decide_eq_true h1]
  · have h2 : (b.getD k 0).toNat < (a.getD k 0).toNat := by omega
    rw [if_neg h1, if_pos h2, decide_eq_false h1]
theorem lt_end {a b : List UInt8} {k : Nat} (ha : k ≤ a.length) (hb : k ≤ b.length) (h : a.take k = b.take k) (he : k = a.length ∨ k = b.length) : ltB a b = decide (a.length < b.length) := by
  rw [lt_drop k a b ha hb h]
  rcases he with rfl | rfl
  · rw [List.drop_length]
    by_cases h1 : a.length < b.length
    · rw [drop_getD b _ h1, nil_lt, decide_eq_true h1]
    · rw [List.drop_eq_nil_of_le (by omega), lt_nil, decide_eq_false h1]
  · rw [List.drop_length, lt_nil, decide_eq_false (by omega)]
theorem take_more {a b : List UInt8} {k : Nat} (ha : k < a.length) (hb : k < b.length) (h : a.take k = b.take k) (he : (a.getD k 0).toNat = (b.getD k 0).toNat) : a.take (k + 1) = b.take (k + 1) := by
  rw [List.take_add_one, List.take_add_one, h]
  have e : a.getD k 0 = b.getD k 0 := UInt8.toNat.inj he
  simp [List.getD, ha, hb] at e
  simp [ha, hb, e]
end Go.Proofs.YtoagdmglchccnaaGreatDoor
namespace Go.Proofs.YtoagdmglchccnaaGreatDoor.V7
open Go Go.RowKit
set_option linter.unusedVariables false
set_option linter.unusedSimpArgs false
/-- A value: its kind, its number, its text. -/
structure V where
  k : Int
  i : Int
  s : List UInt8
def V.Wf (a : V) : Prop := (-9223372036854775808 ≤ a.k ∧ a.k ≤ 9223372036854775807) ∧ (-9223372036854775808 ≤ a.i ∧ a.i ≤ 9223372036854775807)
def mayB (a : V) : Bool := decide ((a.k = 0 ∧ a.i = 0 ∧ a.s = []) ∨ (a.k = 1 ∧ (a.i = 0 ∨ a.i = 1) ∧ a.s = []) ∨ (a.k = 2 ∧ a.s = []) ∨ (a.k = 3 ∧ a.i = 0 ∧ a.s.length ≤ 64))
def sgn3 (a b : Int) : Int := if a < b then -1 else if b < a then 1 else 0
open Lib in
theorem cb_self : ∀ a, compareBytes a a = 0
  | [] => rfl
  | x :: a => by unfold compareBytes; rw [if_neg (UInt8.lt_irrefl x), if_neg (UInt8.lt_irrefl x)]; exact cb_self a
open Lib in
theorem cb_zero : ∀ a b, compareBytes a b = 0 → a = b
  | [], [], _ => rfl
  | [], _ :: _, h => by simp [compareBytes] at h
  | _ :: _, [], h => by simp [compareBytes] at h
  | x :: a, y :: b, h => by
    unfold compareBytes at h
    split at h
    · simp at h
    · split at h
      · simp at h
      · rename_i h1 h2
        have e : x = y := UInt8.le_antisymm (UInt8.not_lt.1 h2) (UInt8.not_lt.1 h1)
        rw [e, cb_zero a b h]
open Lib in
theorem cb_flip : ∀ a b, compareBytes b a = - compareBytes a b
  | [], [] => rfl
  | [], _ :: _ => rfl
  | _ :: _, [] => rfl
  | x :: a, y :: b => by
    unfold compareBytes
    by_cases h1 : x < y
    · have h2 : ¬ y < x := fun h => UInt8.lt_irrefl x (UInt8.lt_trans h1 h)
      rw [if_pos h1, if_neg h2, if_pos h1]; rfl
    · by_cases h2 : y < x
      · rw [if_pos h2, if_neg h1, if_pos h2]
      · rw [if_neg h1, if_neg h2, if_neg h2, if_neg h1]; exact cb_flip a b
open Lib in
theorem cb_trans : ∀ a b c, compareBytes a b < 0 → compareBytes b c < 0 → compareBytes a c < 0
  | [], [], _, h, _ => by simp [compareBytes] at h
  | [], _ :: _, [], _, h => by simp [compareBytes] at h
  | [], _ :: _, _ :: _, _, _ => by simp [compareBytes]
  | _ :: _, [], _, h, _ => by simp [compareBytes] at h
  | _ :: _, _ :: _, [], _, h => by simp [compareBytes] at h
  | x :: a, y :: b, z :: c, h1, h2 => by
    unfold compareBytes at *
    by_cases xy : x < y
    · by_cases yz : y < z
      · rw [if_pos (UInt8.lt_trans xy yz)]; decide
      · by_cases zy : z < y
        · rw [if_neg yz, if_pos zy] at h2; simp at h2
        · have e : y = z := UInt8.le_antisymm (UInt8.not_lt.1 zy) (UInt8.not_lt.1 yz)
          rw [← e, if_pos xy]; decide
    · by_cases yx : y < x
      · rw [if_neg xy, if_pos yx] at h1; simp at h1
      · have e : x = y := UInt8.le_antisymm (UInt8.not_lt.1 yx) (UInt8.not_lt.1 xy)
        subst e
        rw [if_neg xy, if_neg xy] at h1
        by_cases yz : x < z
        · rw [if_pos yz]; decide
        · by_cases zy : z < x
          · rw [if_neg yz, if_pos zy] at h2; simp at h2
          · rw [if_neg yz, if_neg zy] at h2 ⊢
            exact cb_trans a b c h1 h2
/-- How two values are to one another. -/
def ordV (a b : V) : Int := if sgn3 a.k b.k ≠ 0 then sgn3 a.k b.k else if sgn3 a.i b.i ≠ 0 then sgn3 a.i b.i else Lib.compareBytes a.s b.s
def fits (n : Int) : Prop := -9223372036854775808 ≤ n ∧ n ≤ 9223372036854775807
instance (n : Int) : Decidable (fits n) := by unfold fits; infer_instance
end Go.Proofs.YtoagdmglchccnaaGreatDoor.V7
