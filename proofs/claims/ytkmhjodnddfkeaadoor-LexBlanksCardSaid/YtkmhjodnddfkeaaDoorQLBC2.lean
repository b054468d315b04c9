/- Lex: the tokens of a source, as plain mathematics. -/
import Derived.Test.YtkmhjodnddfkeaaDoorQLBC1
namespace Go.Proofs.YtkmhjodnddfkeaaDoor
open Go
set_option linter.unusedVariables false
set_option linter.unusedSimpArgs false
def blankB (c : UInt8) : Bool := c == 32 || (c == 9 || c == 10)
/-- How many bytes are blank or remark: true: inside of a remark. -/
def skS : Bool → List UInt8 → Nat
  | _, [] => 0
  | false, c :: r => if blankB c then skS false r + 1 else if c == 35 then skS true r + 1 else 0
  | true, c :: r => if c == 10 then skS false r + 1 else skS true r + 1
theorem sk_le : ∀ (l : List UInt8) (b : Bool), skS b l ≤ l.length
  | [], b => by cases b <;> exact Nat.le_refl _
  | c :: r, false => by
    unfold skS
    split
    · have := sk_le r false; simp; omega
    · split
      · have := sk_le r true; simp; omega
      · exact Nat.zero_le _
  | c :: r, true => by
    unfold skS
    split
    · have := sk_le r false; simp; omega
    · have := sk_le r true; simp; omega
def letB (c : UInt8) : Bool := (decide (97 ≤ c.toNat) && decide (c.toNat ≤ 122)) || decide (c.toNat = 95)
def digB (c : UInt8) : Bool := decide (48 ≤ c.toNat) && decide (c.toNat ≤ 57)
def nmB (c : UInt8) : Bool := letB c || digB c
def notNl (c : UInt8) : Bool := decide (c.toNat ≠ 10)
def spF (p : UInt8 → Bool) (l : List UInt8) : Nat := (l.takeWhile p).length
theorem sp_le (p : UInt8 → Bool) (l : List UInt8) : spF p l ≤ l.length := (List.takeWhile_prefix _).length_le
theorem sp_take (p : UInt8 → Bool) (l : List UInt8) : l.take (spF p l) = l.takeWhile p := by
  unfold spF
  exact (List.prefix_iff_eq_take.1 (List.takeWhile_prefix p)).symm
def wordsL : List (List UInt8) := [[97, 98, 111, 114, 116], [97, 110, 100], [100, 101, 108, 101, 116, 101], [101, 108, 115, 101], [102, 97, 108, 115, 101], [102, 111, 114], [103, 101, 116], [104, 97, 115], [105, 102], [105, 110], [108, 101, 110], [108, 101, 116], [110, 105, 108], [110, 111, 116], [111, 114], [112, 117, 116], [114, 101, 112, 101, 97, 116], [114, 101, 116, 117, 114, 110], [115, 99, 97, 110], [115, 101, 116], [115, 104, 111, 119], [116, 114, 117, 101]]
def wordB (s : List UInt8) : Bool := wordsL.contains s
/-- The value of digits. -/
def numV (l : List UInt8) : Nat := l.foldl (fun a c => a * 10 + (c.toNat - 48)) 0
/-- A text's content, behind its first quote: an error, or what it says, and how many bytes, the last quote among them. -/
def txS : List UInt8 → Nat ⊕ (List UInt8 × Nat)
  | [] => .inl 2
  | [c] => if c = 34 then .inr ([], 1) else if c.toNat < 32 ∨ 126 < c.toNat then .inl 3 else .inl 2
  | c :: d :: r => if c = 34 then .inr ([], 1) else if c.toNat < 32 ∨ 126 < c.toNat then .inl 3 else if c ≠ 92 then
      (match txS (d :: r) with
      | .inl e => .inl e
      | .inr (t, n) => .inr (c :: t, n + 1))
    else if d = 34 ∨ d = 92 then
      (match txS r with
      | .inl e => .inl e
      | .inr (t, n) => .inr (d :: t, n + 2))
    else if d = 110 then
      (match txS r with
      | .inl e => .inl e
      | .inr (t, n) => .inr (10 :: t, n + 2))
    else .inl 3
def sign2 : List (List UInt8) := [[61, 61], [33, 61], [60, 61], [62, 61], [46, 46]]
def sign1 : List (List UInt8) := [[40], [41], [123], [125], [44], [59], [61], [60], [62], [43], [45], [42], [47], [37]]
def signB (s : List UInt8) : Bool := (sign2 ++ sign1).contains s
/-- A token: its kind, what it says, its number. -/
structure Tk where
  kd : Nat
  t : List UInt8
  i : Int
/-- The token with which bytes begin (there is one at least): an error, or the token and how many bytes. -/
def oneP (l : List UInt8) : Nat ⊕ (Tk × Nat) :=
  match l with
  | [] => .inl 3
  | c :: r =>
    if letB c then (let n := spF nmB l; if 16 < n then .inl 5 else if wordB (l.take n) then .inr (⟨5, l.take n, 0⟩, n) else .inr (⟨1, l.take n, 0⟩, n))
    else if digB c then (let n := spF digB l; if (c = 48 ∧ 1 < n) ∨ 0 < spF nmB (l.drop n) then .inl 3 else if 9223372036854775807 < numV (l.take n) then .inl 8 else .inr (⟨2, [], (numV (l.take n) : Int)⟩, n))
    else if c = 34 then (match txS r with
      | .inl e => .inl e
      | .inr (t, n) => if 64 < t.length then .inl 5 else .inr (⟨3, t, 0⟩, n + 1))
    else if 2 ≤ l.length ∧ signB (l.take 2) then .inr (⟨4, l.take 2, 0⟩, 2)
    else if signB (l.take 1) then .inr (⟨4, l.take 1, 0⟩, 1) else .inl 3
/-- A token with its place. -/
structure Tp where
  kd : Nat
  at_ : Nat
  t : List UInt8
  i : Int
def toksF : Nat → List UInt8 → Nat → Nat → (Nat × Nat) ⊕ List Tp
  | 0, _, _, _ => .inr []
  | f + 1, s, a, k => if s.length ≤ a then .inr [] else
    match oneP (s.drop a) with
    | .inl e => .inl (e, a)
    | .inr (x, n) => if k = 1024 then .inl (5, a) else
      match toksF f s (a + n + skS false (s.drop (a + n))) (k + 1) with
      | .inl z => .inl z
      | .inr l => .inr (⟨x.kd, a, x.t, x.i⟩ :: l)
def toksP (s : List UInt8) : (Nat × Nat) ⊕ List Tp :=
  if 4096 < s.length then .inl (5, 4096) else
  match toksF (s.length + 1) s (skS false s) 0 with
  | .inl z => .inl z
  | .inr l => .inr (l ++ [⟨0, s.length, [], 0⟩])
/-- What is quoted. -/
def quoC (c : UInt8) : List UInt8 := if c = 10 then [92, 110] else if c = 34 ∨ c = 92 then [92, c] else [c]
def quoF : List UInt8 → Option (List UInt8)
  | [] => some []
  | c :: r => if c ≠ 10 ∧ (c.toNat < 32 ∨ 126 < c.toNat) then none else
    match quoF r with
    | none => none
    | some t => some (quoC c ++ t)
def quoE (s : List UInt8) : Nat := if 64 < s.length then 5 else if (quoF s).isSome then 0 else 3
def quoP (s : List UInt8) : List UInt8 := if 64 < s.length then [] else match quoF s with
  | none => []
  | some t => 34 :: t ++ [34]
end Go.Proofs.YtkmhjodnddfkeaaDoor
