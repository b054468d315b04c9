/- Small lemmas of my own on memory: blocks that are laid, cells that are set; they speak of no program in particular. -/
import Derived.Test.YtkmhjodnddfkeaaDoorQLBC1
import Derived.WalkSpells
import Derived.Handy
import Derived.Deep.Light
import Derived.Deep.Draws
namespace Go.Proofs.YtkmhjodnddfkeaaDoor
open Go.RowKit
set_option linter.unusedVariables false
set_option linter.unusedSimpArgs false
theorem two_allocs (w : World) (a b : Obj) :
    ((w.alloc a).alloc b).heap[w.heap.size]? = some a ∧ ((w.alloc a).alloc b).heap[w.heap.size + 1]? = some b ∧ ((w.alloc a).alloc b).heap.size = w.heap.size + 2 ∧ ∀ k, k < w.heap.size → ((w.alloc a).alloc b).heap[k]? = w.heap[k]? := by
  have z1 : (w.alloc a).heap.size = w.heap.size + 1 := by simp
  refine ⟨?_, ?_, by simp, ?_⟩
  · rw [heap_alloc_old _ _ (by omega), heap_alloc_new]
  · rw [← z1, heap_alloc_new]
  · intro k hk
    rw [heap_alloc_old _ _ (by omega), heap_alloc_old _ _ hk]
theorem lt_of_block {w : World} {k : Nat} {o : Obj} (h : w.heap[k]? = some o) : k < w.heap.size := (Array.getElem?_eq_some_iff.1 h).1
theorem set_old {w : World} {B i k : Nat} {u : Value} (h : k ≠ B) : (w.setCell ⟨B, i, none⟩ u).heap[k]? = w.heap[k]? := heap_setCell_other w ⟨B, i, none⟩ k u (by simpa using h)
theorem block_cell {w : World} {B : Nat} {cs : Array Value} {t : TypeId} (h : w.heap[B]? = some (.cells cs t (0, 0))) (i : Nat) : w.cell? ⟨B, i, none⟩ = cs[i]? := by
  simp [World.cell?, h]
theorem block_frozen {w : World} {B : Nat} {cs : Array Value} {t : TypeId} (h : w.heap[B]? = some (.cells cs t (0, 0))) (i : Nat) : w.frozen? ⟨B, i, none⟩ = false := by
  simp [World.frozen?, h]
theorem chain {W wx w' : World} (B : Below W.heap.size W wx) (g : Below wx.heap.size wx w') : Below W.heap.size W w' := B.trans (g.mono B.size)
theorem up {P : Program} {F : Nat} {args : Array Value} {w W : World} {x : Ending} (h : Calls P F args w fun e w' => e = x ∧ Below w.heap.size w w') (hb : Below W.heap.size W w) : Calls P F args w fun e w' => e = x ∧ Below W.heap.size W w' :=
  h.mono fun e w' ⟨a, g⟩ => ⟨a, hb.trans (g.mono hb.size)⟩
theorem below_drewN {w0 w : World} {n k : Nat} (h : Below n w0 w) : Below n w0 (w.drewN k) := ⟨h.os, h.tape, h.output, h.size, h.block⟩
theorem block_cells2 {w : World} {B : Nat} {a0 a1 : Value} {t : TypeId} (h : w.heap[B]? = some (.cells #[a0, a1] t (0, 0))) :
    w.cell? ⟨B, 0, none⟩ = some a0 ∧ w.cell? ⟨B, 1, none⟩ = some a1 ∧ ∀ i, w.frozen? ⟨B, i, none⟩ = false := by
  refine ⟨?_, ?_, ?_⟩
  all_goals simp [World.cell?, World.frozen?, h]
theorem block_cells4 {w : World} {B : Nat} {a0 a1 a2 a3 : Value} {t : TypeId} (h : w.heap[B]? = some (.cells #[a0, a1, a2, a3] t (0, 0))) :
    w.cell? ⟨B, 0, none⟩ = some a0 ∧ w.cell? ⟨B, 1, none⟩ = some a1 ∧ w.cell? ⟨B, 2, none⟩ = some a2 ∧ w.cell? ⟨B, 3, none⟩ = some a3 ∧ ∀ i, w.frozen? ⟨B, i, none⟩ = false := by
  refine ⟨?_, ?_, ?_, ?_, ?_⟩
  all_goals simp [World.cell?, World.frozen?, h]
theorem block_cells8 {w : World} {B : Nat} {a0 a1 a2 a3 a4 a5 a6 a7 : Value} {t : TypeId} (h : w.heap[B]? = some (.cells #[a0, a1, a2, a3, a4, a5, a6, a7] t (0, 0))) :
    w.cell? ⟨B, 0, none⟩ = some a0 ∧ w.cell? ⟨B, 1, none⟩ = some a1 ∧ w.cell? ⟨B, 2, none⟩ = some a2 ∧ w.cell? ⟨B, 3, none⟩ = some a3 ∧ w.cell? ⟨B, 4, none⟩ = some a4 ∧ w.cell? ⟨B, 5, none⟩ = some a5 ∧ w.cell? ⟨B, 6, none⟩ = some a6 ∧ w.cell? ⟨B, 7, none⟩ = some a7 ∧ ∀ i, w.frozen? ⟨B, i, none⟩ = false := by
  refine ⟨?_, ?_, ?_, ?_, ?_, ?_, ?_, ?_, ?_⟩
  all_goals simp [World.cell?, World.frozen?, h]
theorem block_cells13 {w : World} {B : Nat} {a0 a1 a2 a3 a4 a5 a6 a7 a8 a9 a10 a11 a12 : Value} {t : TypeId} (h : w.heap[B]? = some (.cells #[a0, a1, a2, a3, a4, a5, a6, a7, a8, a9, a10, a11, a12] t (0, 0))) :
    w.cell? ⟨B, 0, none⟩ = some a0 ∧ w.cell? ⟨B, 1, none⟩ = some a1 ∧ w.cell? ⟨B, 2, none⟩ = some a2 ∧ w.cell? ⟨B, 3, none⟩ = some a3 ∧ w.cell? ⟨B, 4, none⟩ = some a4 ∧ w.cell? ⟨B, 5, none⟩ = some a5 ∧ w.cell? ⟨B, 6, none⟩ = some a6 ∧ w.cell? ⟨B, 7, none⟩ = some a7 ∧ w.cell? ⟨B, 8, none⟩ = some a8 ∧ w.cell? ⟨B, 9, none⟩ = some a9 ∧ w.cell? ⟨B, 10, none⟩ = some a10 ∧ w.cell? ⟨B, 11, none⟩ = some a11 ∧ w.cell? ⟨B, 12, none⟩ = some a12 ∧ ∀ i, w.frozen? ⟨B, i, none⟩ = false := by
  refine ⟨?_, ?_, ?_, ?_, ?_, ?_, ?_, ?_, ?_, ?_, ?_, ?_, ?_, ?_⟩
  all_goals simp [World.cell?, World.frozen?, h]
theorem set_at {w : World} {B i : Nat} {cs : Array Value} {t : TypeId} {u : Value} (h : w.heap[B]? = some (.cells cs t (0, 0))) : (w.setCell ⟨B, i, none⟩ u).heap[B]? = some (.cells (cs.setIfInBounds i u) t (0, 0)) :=
  heap_setCell_same w B i cs t u h
theorem set4_new {w : World} {B : Nat} {a0 a1 a2 a3 u0 u1 u2 u3 : Value} {t : TypeId} (h : w.heap[B]? = some (.cells #[a0, a1, a2, a3] t (0, 0))) :
    ((((w.setCell ⟨B, 0, none⟩ u0).setCell ⟨B, 1, none⟩ u1).setCell ⟨B, 2, none⟩ u2).setCell ⟨B, 3, none⟩ u3).heap[B]? = some (.cells #[u0, u1, u2, u3] t (0, 0)) := by
  simpa using set_at (i := 3) (u := u3) (set_at (i := 2) (u := u2) (set_at (i := 1) (u := u1) (set_at (i := 0) (u := u0) h)))
theorem set4_old {w : World} {B k : Nat} {u0 u1 u2 u3 : Value} (h : k ≠ B) :
    ((((w.setCell ⟨B, 0, none⟩ u0).setCell ⟨B, 1, none⟩ u1).setCell ⟨B, 2, none⟩ u2).setCell ⟨B, 3, none⟩ u3).heap[k]? = w.heap[k]? := by
  rw [set_old h, set_old h, set_old h, set_old h]
theorem grown_setB {w wr : World} {B i : Nat} {u : Value} (h : w.grownBy wr (some B)) : w.grownBy (wr.setCell ⟨B, i, none⟩ u) (some B) :=
  ⟨h.os, h.tape, h.output, by have := h.size; simpa using this, fun k hk hr => (set_old (fun e => hr (by rw [e]))).trans (h.block k hk hr)⟩
theorem grown_drewB {w wr : World} {r : Option Nat} (h : w.grownBy wr r) : w.grownBy wr.drew r := ⟨h.os, h.tape, h.output, h.size, h.block⟩
theorem grown_reflB {w : World} {r : Option Nat} : w.grownBy w r := ⟨rfl, rfl, rfl, Nat.le_refl _, fun _ _ _ => rfl⟩
theorem grown_belowB {w wr w' : World} {r : Option Nat} (h : w.grownBy wr r) (g : Below wr.heap.size wr w') : w.grownBy w' r :=
  ⟨g.os.trans h.os, g.tape.trans h.tape, g.output.trans h.output, Nat.le_trans h.size g.size, fun k hk hr => (g.block k (Nat.lt_of_lt_of_le hk h.size)).trans (h.block k hk hr)⟩
theorem grown_transB {a b c : World} {r : Option Nat} (h : a.grownBy b r) (k : b.grownBy c r) : a.grownBy c r :=
  ⟨k.os.trans h.os, k.tape.trans h.tape, k.output.trans h.output, Nat.le_trans h.size k.size, fun i hi hr => (k.block i (Nat.lt_of_lt_of_le hi h.size) hr).trans (h.block i hi hr)⟩
end Go.Proofs.YtkmhjodnddfkeaaDoor
