/- Leaves: Get, Put, Delete. Written by wip/tools/gen9f.py. -/
/- Leaves: Put, Delete. Written by wip/tools/gen9g.py. -/
/- Leaves: what is put is got, what is deleted is not, all else is as it was. Plain mathematics. -/
import Derived.Test.YtbdfcgffkonbiaaGreatDoorQSSC13
import Derived.Test.YtbdfcgffkonbiaaGreatDoorQSSC9
namespace Go.Proofs.YtbdfcgffkonbiaaGreatDoor
open Go Go.RowKit
set_option linter.unusedVariables false
set_option linter.unusedSimpArgs false
theorem it_eq_no (x y : It) (h : x ≠ y) (w : World) : (binOp .eql 48 (itV x) (itV y)).run Tryz.prog w = .ok (.bool false) w := by
  obtain ⟨a, ⟨b, c, d⟩, e⟩ := x
  obtain ⟨a', ⟨b', c', d'⟩, e'⟩ := y
  unfold itV
  go_simp
  by_cases h1 : a = a'
  · by_cases h2 : b = b'
    · by_cases h3 : c = c'
      · by_cases h4 : d = d'
        · by_cases h5 : e = e'
          · exact absurd (by rw [h1, h2, h3, h4, h5]) h
          · simp [h1, h2, h3, h4, h5, str_tl]
        · simp [h1, h2, h3, h4, str_tl]
      · simp [h1, h2, h3, str_tl]
    · simp [h1, h2, str_tl]
  · simp [h1, str_tl]
theorem put5 {w : World} {B : Nat} {a0 a1 a2 a3 a4 : Value} (u0 u1 u2 u3 u4 : Value) {t : TypeId} (h : w.heap[B]? = some (.cells #[a0, a1, a2, a3, a4] t (0, 0))) :
    (((((w.setCell ⟨B, 0, none⟩ u0).setCell ⟨B, 1, none⟩ u1).setCell ⟨B, 2, none⟩ u2).setCell ⟨B, 3, none⟩ u3).setCell ⟨B, 4, none⟩ u4).heap[B]? = some (.cells #[u0, u1, u2, u3, u4] t (0, 0)) := by
  simpa using set_at (i := 4) (u := u4) (set_at (i := 3) (u := u3) (set_at (i := 2) (u := u2) (set_at (i := 1) (u := u1) (set_at (i := 0) (u := u0) h))))
theorem put5_below {n : Nat} {w0 w : World} {B : Nat} (u0 u1 u2 u3 u4 : Value) (h : Below n w0 w) (hB : n ≤ B) : Below n w0 (((((w.setCell ⟨B, 0, none⟩ u0).setCell ⟨B, 1, none⟩ u1).setCell ⟨B, 2, none⟩ u2).setCell ⟨B, 3, none⟩ u3).setCell ⟨B, 4, none⟩ u4) :=
  ((((h.setCell (p := ⟨B, 0, none⟩) hB _).setCell (p := ⟨B, 1, none⟩) hB _).setCell (p := ⟨B, 2, none⟩) hB _).setCell (p := ⟨B, 3, none⟩) hB _).setCell (p := ⟨B, 4, none⟩) hB _
theorem set5 {w : World} {B n : Nat} {v : World} {a0 a1 a2 a3 a4 : Value} (u0 u1 u2 u3 u4 : Value) {t : TypeId} (h : w.heap[B]? = some (.cells #[a0, a1, a2, a3, a4] t (0, 0))) (hb : Below n v w) (hn : n ≤ B) :
    (((((w.setCell ⟨B, 0, none⟩ u0).setCell ⟨B, 1, none⟩ u1).setCell ⟨B, 2, none⟩ u2).setCell ⟨B, 3, none⟩ u3).setCell ⟨B, 4, none⟩ u4).cell? ⟨B, 0, none⟩ = some u0 ∧ (((((w.setCell ⟨B, 0, none⟩ u0).setCell ⟨B, 1, none⟩ u1).setCell ⟨B, 2, none⟩ u2).setCell ⟨B, 3, none⟩ u3).setCell ⟨B, 4, none⟩ u4).cell? ⟨B, 1, none⟩ = some u1 ∧ (((((w.setCell ⟨B, 0, none⟩ u0).setCell ⟨B, 1, none⟩ u1).setCell ⟨B, 2, none⟩ u2).setCell ⟨B, 3, none⟩ u3).setCell ⟨B, 4, none⟩ u4).cell? ⟨B, 2, none⟩ = some u2 ∧ (((((w.setCell ⟨B, 0, none⟩ u0).setCell ⟨B, 1, none⟩ u1).setCell ⟨B, 2, none⟩ u2).setCell ⟨B, 3, none⟩ u3).setCell ⟨B, 4, none⟩ u4).cell? ⟨B, 3, none⟩ = some u3 ∧ (((((w.setCell ⟨B, 0, none⟩ u0).setCell ⟨B, 1, none⟩ u1).setCell ⟨B, 2, none⟩ u2).setCell ⟨B, 3, none⟩ u3).setCell ⟨B, 4, none⟩ u4).cell? ⟨B, 4, none⟩ = some u4 ∧ Below n v (((((w.setCell ⟨B, 0, none⟩ u0).setCell ⟨B, 1, none⟩ u1).setCell ⟨B, 2, none⟩ u2).setCell ⟨B, 3, none⟩ u3).setCell ⟨B, 4, none⟩ u4) := by
  obtain ⟨c0, c1, c2, c3, c4, -⟩ := block_cells5 (put5 u0 u1 u2 u3 u4 h)
  exact ⟨c0, c1, c2, c3, c4, put5_below u0 u1 u2 u3 u4 hb hn⟩
theorem atL_found {l : List It} {k : List UInt8} (h : isL l = true) : (foundL l k = true ∧ ∃ hp : posL l k < l.length, l[posL l k].key = k ∧ atL l k = some l[posL l k]) ∨ (foundL l k = false ∧ (∀ hp : posL l k < l.length, l[posL l k].key ≠ k) ∧ atL l k = none) := by
  have hs := isL_sorted h
  cases hf : foundL l k with
  | true =>
    obtain ⟨hp, hk⟩ := found_yes hf
    exact .inl ⟨rfl, hp, hk, pos_at hs hp hk⟩
  | false =>
    have hk := found_no hf
    exact .inr ⟨rfl, hk, at_none hs hk⟩
/-- Slices of items in a block of their own, as lists. -/
theorem rdls_mk {W : World} {g n : Nat} {cs : Array Value} {T : TypeId} {ls : List (List It)} (hq : W.heap[g]? = some (.cells cs T (0, 0))) (hn : ls.length = n) (h10 : n ≤ 10) (h : ∀ j (hj : j < ls.length), ∃ A, cs[j]? = some A ∧ RdI W A ls[j]) : RdLs W (.slice (some ⟨g, 0, none⟩) n n) ls := by
  subst hn
  refine ⟨_, _, rfl, Nat.le_refl _, by unfold maxLen; omega, Lib.hid fun j hj => ?_⟩
  obtain ⟨A, h1, h2⟩ := h j hj
  obtain ⟨a2, c2, rfl, h3, h4, h5⟩ := RdK.open h2
  exact ⟨g, 0, a2, c2, rfl, lt_of_block hq, by rw [Nat.zero_add, block_cell hq j]; exact h1, h3, h4, h5⟩
theorem rdi_one {W : World} {g : Nat} {x : It} {cs : List Value} {T : TypeId} (hq : W.heap[g]? = some (.cells cs.toArray T (0, 0))) (hcs : cs = itC x) : RdI W (.slice (some ⟨g, 0, none⟩) 1 1) [x] := by
  subst hcs
  refine ⟨_, 1, rfl, by simp, by unfold maxLen; omega, by simp, fun _ => ⟨g, 0, rfl, lt_of_block hq, fun t ht => ?_⟩⟩
  rw [Nat.zero_add, block_cell hq t]
  simp
def itZ : Value := .agg #[.string (str []), .int .i64 0, .int .i64 0, .string (str []), .int .i64 0]
/-- What Get hands back. -/
def getT (l : List It) (k : List UInt8) : Value := if isL l = true then (match atL l k with | some x => .tuple #[itV x, .bool true] | none => .tuple #[itZ, .bool false]) else .tuple #[itZ, .bool false]
theorem getT_no {l : List It} {k : List UInt8} (h : isL l = false) : getT l k = .tuple #[itZ, .bool false] := by unfold getT; rw [h]; rfl
theorem getT_none {l : List It} {k : List UInt8} (h1 : isL l = true) (h : atL l k = none) : getT l k = .tuple #[itZ, .bool false] := by unfold getT; rw [if_pos h1, h]
theorem getT_some {l : List It} {k : List UInt8} {x : It} (h1 : isL l = true) (h : atL l k = some x) : getT l k = .tuple #[itV x, .bool true] := by unfold getT; rw [if_pos h1, h]
end Go.Proofs.YtbdfcgffkonbiaaGreatDoor
namespace Go.Proofs.YtbdfcgffkonbiaaGreatDoor
open Go Go.RowKit
set_option linter.unusedVariables false
set_option linter.unusedSimpArgs false
/-- A list of items of the call's own, and an error's number. -/
def OwnIE (w : World) (l : List It) (c : Nat) (e : Ending) (w' : World) : Prop := ∃ v', e = .returned (.tuple #[v', .int .i64 (c : Int)]) ∧ w'.ownsRow w.heap.size 48 5 v' l.length (l.flatMap itC) ∧ Below w.heap.size w w'
def putE (l : List It) (x : It) : Nat := if isL l = true ∧ mayI x = true then (if foundL l x.key = false ∧ l.length = 64 then 5 else 0) else 1
def putR (l : List It) (x : It) : List It := if putE l x = 0 then withL l x else []
def delE (l : List It) (k : List UInt8) : Nat := if isL l = true then (if foundL l k = true then 0 else 6) else 1
def delR (l : List It) (k : List UInt8) : List It := if delE l k = 0 then withoutL l k else []
theorem ownIE_nil {w w' : World} {c : Nat} {v : Value} (hv : v = .slice none 0 0) (h : Below w.heap.size w w') : OwnIE w [] c (.returned (.tuple #[v, .int .i64 (c : Int)])) w' := by
  subst hv; exact ⟨_, rfl, World.ownsRow_nil _ _ _ _, h⟩
theorem own_up {w0 w1 w' : World} {l : List It} {v : Value} (h : w'.ownsRow w1.heap.size 48 5 v l.length (l.flatMap itC)) (b : w0.heap.size ≤ w1.heap.size) : w'.ownsRow w0.heap.size 48 5 v l.length (l.flatMap itC) := by
  refine ⟨h.1, ?_⟩
  rcases h.2 with h1 | ⟨g, cap, cur, rfl, h2, h3⟩
  · exact .inl h1
  · exact .inr ⟨g, cap, cur, rfl, Nat.le_trans b h2, h3⟩
theorem end_two {w0 w2 w9 : World} {o : Obj} {l : List It} {v : Value} (B : Below w0.heap.size w0 w2) (b9 : Below ((w2.drew).alloc o).heap.size ((w2.drew).alloc o) w9) (h : w9.ownsRow ((w2.drew).alloc o).heap.size 48 5 v l.length (l.flatMap itC)) :
    w9.ownsRow w0.heap.size 48 5 v l.length (l.flatMap itC) ∧ Below w0.heap.size w0 w9 := by
  have bz : Below w0.heap.size w0 ((w2.drew).alloc o) := (B.drew).alloc B.size _
  exact ⟨own_up h bz.size, chain bz b9⟩
theorem end_three {w0 w2 w9 : World} {o o' : Obj} {l : List It} {v : Value} (B : Below w0.heap.size w0 w2) (b9 : Below (((w2.drew).alloc o).alloc o').heap.size (((w2.drew).alloc o).alloc o') w9) (h : w9.ownsRow (((w2.drew).alloc o).alloc o').heap.size 48 5 v l.length (l.flatMap itC)) :
    w9.ownsRow w0.heap.size 48 5 v l.length (l.flatMap itC) ∧ Below w0.heap.size w0 w9 := by
  have bz1 : Below w0.heap.size w0 ((w2.drew).alloc o) := (B.drew).alloc B.size _
  have bz := bz1.alloc bz1.size o'
  exact ⟨own_up h bz.size, chain bz b9⟩
end Go.Proofs.YtbdfcgffkonbiaaGreatDoor
namespace Go.Proofs.YtbdfcgffkonbiaaGreatDoor
open Go Go.RowKit
set_option linter.unusedVariables false
set_option linter.unusedSimpArgs false
theorem at_mem {l : List It} (hs : l.Pairwise (fun a b => ltB a.key b.key = true)) {k : List UInt8} {y : It} : atL l k = some y ↔ (y ∈ l ∧ y.key = k) := by
  unfold atL
  constructor
  · intro h
    have h1 := List.find?_some h
    exact ⟨List.mem_of_find?_eq_some h, by simpa using h1⟩
  · rintro ⟨h1, h2⟩
    obtain ⟨i, hi, rfl⟩ := List.getElem_of_mem h1
    rw [List.find?_eq_some_iff_getElem]
    refine ⟨by simp [h2], i, hi, rfl, fun j hj => ?_⟩
    have h3 := ltB_ne (sorted_at hs hj hi)
    rw [h2] at h3
    simpa using h3
theorem with_mem {l : List It} {x y : It} : y ∈ withL l x ↔ ((y ∈ l ∧ ltB y.key x.key = true) ∨ y = x ∨ (y ∈ l ∧ ltB x.key y.key = true)) := by
  unfold withL
  simp only [List.mem_append, List.mem_cons, List.mem_filter]
theorem with_sorted {l : List It} (hs : l.Pairwise (fun a b => ltB a.key b.key = true)) (x : It) : (withL l x).Pairwise (fun a b => ltB a.key b.key = true) := by
  unfold withL
  rw [List.pairwise_append]
  refine ⟨hs.filter _, ?_, ?_⟩
  · rw [List.pairwise_cons]
    exact ⟨fun y hy => (List.mem_filter.1 hy).2, hs.filter _⟩
  · intro a ha b hb
    have h1 := (List.mem_filter.1 ha).2
    rcases List.mem_cons.1 hb with rfl | hb
    · exact h1
    · exact lt_trans h1 (List.mem_filter.1 hb).2
theorem putE_zero {l : List It} {x : It} (h : putE l x = 0) : isL l = true ∧ mayI x = true ∧ (foundL l x.key = true ∨ l.length < 64) := by
  unfold putE at h
  by_cases h1 : isL l = true ∧ mayI x = true
  · rw [if_pos h1] at h
    refine ⟨h1.1, h1.2, ?_⟩
    by_cases h2 : foundL l x.key = false ∧ l.length = 64
    · rw [if_pos h2] at h; omega
    · have := isL_len h1.1
      cases hf : foundL l x.key with
      | true => exact .inl rfl
      | false => exact .inr (by rw [hf] at h2; simp at h2; omega)
  · rw [if_neg h1] at h; omega
theorem with_len {l : List It} {x : It} (h : putE l x = 0) : (withL l x).length ≤ 64 := by
  obtain ⟨h1, h2, h3⟩ := putE_zero h
  have hs := isL_sorted h1
  have h64 := isL_len h1
  cases hf : foundL l x.key with
  | true =>
    obtain ⟨hp, hk⟩ := found_yes hf
    rw [← with_in hs x hp hk]
    simp; omega
  | false =>
    rw [← with_out hs x (found_no hf)]
    have := posL_le l x.key
    rw [hf] at h3
    simp at h3 ⊢; omega
theorem with_is {l : List It} {x : It} (h : putE l x = 0) : isL (withL l x) = true := by
  obtain ⟨h1, h2, h3⟩ := putE_zero h
  refine (isL_iff _).2 ⟨with_len h, fun y hy => ?_, with_sorted (isL_sorted h1) x⟩
  rcases with_mem.1 hy with ⟨hy, _⟩ | rfl | ⟨hy, _⟩
  · exact isL_may h1 y hy
  · exact h2
  · exact isL_may h1 y hy
theorem with_at {l : List It} {x : It} (h : putE l x = 0) : atL (withL l x) x.key = some x :=
  (at_mem (with_sorted (isL_sorted (putE_zero h).1) x)).2 ⟨with_mem.2 (.inr (.inl rfl)), rfl⟩
theorem with_other {l : List It} {x : It} (h : putE l x = 0) {k : List UInt8} (hk : k ≠ x.key) : atL (withL l x) k = atL l k := by
  have hs := isL_sorted (putE_zero h).1
  apply Option.ext
  intro y
  rw [at_mem (with_sorted hs x), at_mem hs, with_mem]
  constructor
  · rintro ⟨(⟨h1, _⟩ | rfl | ⟨h1, _⟩), h2⟩
    · exact ⟨h1, h2⟩
    · exact absurd h2.symm hk
    · exact ⟨h1, h2⟩
  · rintro ⟨h1, h2⟩
    refine ⟨?_, h2⟩
    cases h3 : ltB y.key x.key with
    | true => exact .inl ⟨h1, rfl⟩
    | false =>
      cases h4 : ltB x.key y.key with
      | true => exact .inr (.inr ⟨h1, rfl⟩)
      | false => exact absurd (h2.symm.trans (ltB_tri h3 h4)) hk
theorem delE_zero {l : List It} {k : List UInt8} (h : delE l k = 0) : isL l = true ∧ foundL l k = true := by
  unfold delE at h
  by_cases h1 : isL l = true
  · rw [if_pos h1] at h
    by_cases h2 : foundL l k = true
    · exact ⟨h1, h2⟩
    · rw [if_neg h2] at h; omega
  · rw [if_neg h1] at h; omega
theorem without_sorted {l : List It} (hs : l.Pairwise (fun a b => ltB a.key b.key = true)) (k : List UInt8) : (withoutL l k).Pairwise (fun a b => ltB a.key b.key = true) := hs.filter _
theorem without_len {l : List It} {k : List UInt8} (h : delE l k = 0) : (withoutL l k).length + 1 = l.length := by
  obtain ⟨h1, h2⟩ := delE_zero h
  obtain ⟨hp, hk⟩ := found_yes h2
  rw [← without_in (isL_sorted h1) hp hk]
  simp; omega
theorem without_is {l : List It} {k : List UInt8} (h : delE l k = 0) : isL (withoutL l k) = true := by
  obtain ⟨h1, h2⟩ := delE_zero h
  refine (isL_iff _).2 ⟨by have := without_len h; have := isL_len h1; omega, fun y hy => ?_, without_sorted (isL_sorted h1) k⟩
  exact isL_may h1 y (List.mem_filter.1 hy).1
theorem without_at {l : List It} {k : List UInt8} (h : delE l k = 0) : atL (withoutL l k) k = none := by
  unfold atL
  rw [List.find?_eq_none]
  intro y hy
  have := (List.mem_filter.1 hy).2
  simpa using this
theorem without_other {l : List It} {k' : List UInt8} (h : delE l k' = 0) {k : List UInt8} (hk : k ≠ k') : atL (withoutL l k') k = atL l k := by
  have hs := isL_sorted (delE_zero h).1
  apply Option.ext
  intro y
  rw [at_mem (without_sorted hs k'), at_mem hs]
  unfold withoutL
  rw [List.mem_filter]
  constructor
  · rintro ⟨⟨h1, _⟩, h2⟩; exact ⟨h1, h2⟩
  · rintro ⟨h1, h2⟩; exact ⟨⟨h1, by simp [h2, hk]⟩, h2⟩
def zI : It := ⟨[], ⟨0, 0, []⟩, 0⟩
def gI (l : List It) (k : List UInt8) : It := if isL l = true then (atL l k).getD zI else zI
def gB (l : List It) (k : List UInt8) : Bool := isL l && (atL l k).isSome
theorem getT_of (l : List It) (k : List UInt8) : getT l k = .tuple #[itV (gI l k), .bool (gB l k)] := by
  unfold getT gI gB
  cases hl : isL l with
  | false => rfl
  | true =>
    rw [if_pos rfl, if_pos rfl]
    cases atL l k <;> rfl
end Go.Proofs.YtbdfcgffkonbiaaGreatDoor
