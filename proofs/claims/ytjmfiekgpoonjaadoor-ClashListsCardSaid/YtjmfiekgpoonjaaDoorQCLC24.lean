/- A block of slices, each a row of the call's own, no two of them in one block: what an append to one of them does. It speaks of no program in particular. -/
import Derived.Maps.AppendAt
import Derived.Laws.AppendOwnNone
import Derived.WalkKit
import Derived.Handy
namespace Go.Proofs.YtjmfiekgpoonjaaDoor
open Go Go.RowKit
set_option linter.unusedVariables false
set_option linter.unusedSimpArgs false
section
variable {α : Type} {enc : α → Value}
structure Rws (w : World) (base B : Nat) (T e : TypeId) (enc : α → Value) (ls : List (List α)) (vs : List Value) : Prop where
  block : w.heap[B]? = some (.cells vs.toArray T (0, 0))
  len : vs.length = ls.length
  row : ∀ t, t < ls.length → w.ownsRow base e 1 (vs.getD t undef) (ls.getD t []).length ((ls.getD t []).map enc)
  off : ∀ t, t < ls.length → (vs.getD t undef).ownBlock ≠ some B
  apart : ∀ t t', t < ls.length → t' < ls.length → t ≠ t' → ∀ g, (vs.getD t undef).ownBlock = some g → (vs.getD t' undef).ownBlock ≠ some g
theorem getD_set_eq {β : Type} {l : List β} {i : Nat} {x d : β} (h : i < l.length) : (l.set i x).getD i d = x := by simp [List.getD, h]
theorem getD_set_ne {β : Type} {l : List β} {i j : Nat} {x d : β} (h : i ≠ j) : (l.set i x).getD j d = l.getD j d := by simp [List.getD, List.getElem?_set_ne h]
theorem getD_rep {β : Type} {n i : Nat} {x d : β} (h : i < n) : (List.replicate n x).getD i d = x := by simp [List.getD, h]
theorem Rws.new {w : World} {base B n : Nat} {T e : TypeId} (h : w.heap[B]? = some (.cells (Array.replicate n (.slice none 0 0)) T (0, 0))) : Rws (enc := enc) w base B T e (List.replicate n []) (List.replicate n (.slice none 0 0)) := by
  refine ⟨by rw [List.toArray_replicate]; exact h, by simp, ?_, ?_, ?_⟩
  · intro t ht
    rw [List.length_replicate] at ht
    rw [getD_rep ht, getD_rep ht]
    exact World.ownsRow_nil _ _ _ _
  · intro t ht
    rw [List.length_replicate] at ht
    rw [getD_rep ht]; simp [Value.ownBlock]
  · intro t t' ht _ _ g hg
    rw [List.length_replicate] at ht
    rw [getD_rep ht] at hg; simp [Value.ownBlock] at hg
/-- What is made, and what turns in no row of it and not in the block, leaves it. -/
theorem Rws.kept {w w' : World} {base B : Nat} {T e : TypeId} {ls : List (List α)} {vs : List Value} (h : Rws w base B T e enc ls vs) {r : Option Nat} (hg : w.grownBy w' r) (hB : some B ≠ r)
    (hr : ∀ t, t < ls.length → (vs.getD t undef).ownBlock = none ∨ (vs.getD t undef).ownBlock ≠ r) : Rws w' base B T e enc ls vs := by
  refine ⟨?_, h.len, fun t ht => (h.row t ht).kept hg (hr t ht), h.off, h.apart⟩
  rw [hg.block B (Array.getElem?_eq_some_iff.1 h.block).1 hB]; exact h.block
theorem Rws.below {w w' : World} {base B : Nat} {T e : TypeId} {ls : List (List α)} {vs : List Value} (h : Rws w base B T e enc ls vs) (hg : Below w.heap.size w w') : Rws w' base B T e enc ls vs :=
  h.kept (r := none) ⟨hg.os, hg.tape, hg.output, hg.size, fun k hk _ => hg.block k hk⟩ (by simp) (fun t ht => by cases (vs.getD t undef).ownBlock <;> simp)
/-- An append to one of the rows, and the store of what comes. -/
theorem Rws.push {w w1 : World} {base B i : Nat} {T e : TypeId} {ls : List (List α)} {vs : List Value} (h : Rws w base B T e enc ls vs) (hi : i < ls.length) (tmp : Obj) {v' : Value} {y : α} (hBb : B < w.heap.size)
    (hown : w1.ownsRow base e 1 v' ((ls.getD i []).length + 1) ((ls.getD i []).map enc ++ [enc y])) (hg : (w.alloc tmp).grownBy w1 (vs.getD i undef).ownBlock)
    (hq : v'.ownBlock = (vs.getD i undef).ownBlock ∨ v'.ownBlock = some (w.alloc tmp).heap.size) : Rws (w1.setCell ⟨B, i, none⟩ v') base B T e enc (ls.set i (ls.getD i [] ++ [y])) (vs.set i v') := by
  have hb1 : w1.heap[B]? = some (.cells vs.toArray T (0, 0)) := by
    rw [hg.block B (by simp; omega) (fun e => h.off i hi e.symm), heap_alloc_old _ _ hBb]; exact h.block
  have hvl : i < vs.length := by rw [h.len]; exact hi
  have hlt : ∀ t, t < ls.length → ∀ g, (vs.getD t undef).ownBlock = some g → g < w.heap.size := fun t ht g e => ((h.row t ht).lt g e).2
  have hoff' : v'.ownBlock ≠ some B := by
    rcases hq with e | e
    · rw [e]; exact h.off i hi
    · rw [e]; simp; omega
  refine ⟨?_, by rw [List.length_set, List.length_set]; exact h.len, ?_, ?_, ?_⟩
  · rw [heap_setCell_same w1 B i vs.toArray T v' hb1]; simp
  · intro t ht
    rw [List.length_set] at ht
    by_cases ei : i = t
    · subst ei
      rw [getD_set_eq hvl, getD_set_eq hi, List.length_append, List.map_append]
      refine World.ownsRow.kept (w := w1) (row := some B) ?_ ⟨rfl, rfl, rfl, by simp, fun k hk hne => heap_setCell_other w1 ⟨B, i, none⟩ k v' (by simpa using hne)⟩ (.inr hoff')
      exact hown
    · rw [getD_set_ne ei, getD_set_ne ei]
      have h1 := ((h.row t ht).alloc tmp).kept hg (by
        cases ev : (vs.getD t undef).ownBlock with
        | none => exact .inl rfl
        | some g => exact .inr fun e => h.apart t i ht hi (fun q => ei q.symm) g ev e.symm)
      exact h1.kept (row := some B) ⟨rfl, rfl, rfl, by simp, fun k hk hne => heap_setCell_other w1 ⟨B, i, none⟩ k v' (by simpa using hne)⟩ (.inr (h.off t ht))
  · intro t ht
    rw [List.length_set] at ht
    by_cases ei : i = t
    · subst ei; rw [getD_set_eq hvl]; exact hoff'
    · rw [getD_set_ne ei]; exact h.off t ht
  · intro t t' ht ht' hne g hgt
    rw [List.length_set] at ht ht'
    by_cases ei : i = t
    · subst ei
      rw [getD_set_eq hvl] at hgt
      rw [getD_set_ne hne]
      rcases hq with e | e
      · rw [e] at hgt; exact h.apart i t' ht ht' hne g hgt
      · rw [e] at hgt
        intro e2
        have := hlt t' ht' g e2
        simp at hgt; omega
    · rw [getD_set_ne ei] at hgt
      by_cases ei' : i = t'
      · subst ei'
        rw [getD_set_eq hvl]
        rcases hq with e | e
        · rw [e]; exact h.apart t i ht ht' hne g hgt
        · rw [e]
          have := hlt t ht g hgt
          simp; omega
      · rw [getD_set_ne ei']; exact h.apart t t' ht ht' hne g hgt
end
end Go.Proofs.YtjmfiekgpoonjaaDoor
