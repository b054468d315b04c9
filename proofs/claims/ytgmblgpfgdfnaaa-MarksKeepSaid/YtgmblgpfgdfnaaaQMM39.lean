/- A region whose order is open, walked once under a condition on the world that is chosen for it: what only reads under it is taken first. -/
import Derived.Test.YtgmblgpfgdfnaaaQMM23
namespace Go.Proofs.Ytgmblgpfgdfnaaa
open Go.RowKit
set_option linter.unusedVariables false
/-- What is left: what was there, but for two blocks, is as it was. -/
structure Two (w w' : World) (g b : Nat) : Prop where
  size : w.heap.size ≤ w'.heap.size
  os : w'.os = w.os
  tape : w'.tape = w.tape
  output : w'.output = w.output
  block : ∀ k, k < w.heap.size → k ≠ g → k ≠ b → w'.heap[k]? = w.heap[k]?
theorem Two.refl (w : World) (g b : Nat) : Two w w g b := ⟨Nat.le_refl _, rfl, rfl, rfl, fun _ _ _ _ => rfl⟩
theorem Two.below {w x y : World} {g b : Nat} (h : Two w x g b) (k : Below x.heap.size x y) : Two w y g b :=
  ⟨Nat.le_trans h.size k.size, k.os.trans h.os, k.tape.trans h.tape, k.output.trans h.output, fun i hi h1 h2 => (k.block i (Nat.lt_of_lt_of_le hi h.size)).trans (h.block i hi h1 h2)⟩
theorem Two.grown {w x y : World} {g b : Nat} (h : Two w x g b) (k : x.grownBy y (some g)) : Two w y g b :=
  ⟨Nat.le_trans h.size k.size, k.os.trans h.os, k.tape.trans h.tape, k.output.trans h.output, fun i hi h1 h2 => (k.block i (Nat.lt_of_lt_of_le hi h.size) (by simp; first | exact h1 | exact fun e => h1 e.symm)).trans (h.block i hi h1 h2)⟩
theorem Two.grown2 {w x y : World} {g b : Nat} (h : Two w x g b) (k : x.grownBy y (some b)) : Two w y g b :=
  ⟨Nat.le_trans h.size k.size, k.os.trans h.os, k.tape.trans h.tape, k.output.trans h.output, fun i hi h1 h2 => (k.block i (Nat.lt_of_lt_of_le hi h.size) (by simp; first | exact h2 | exact fun e => h2 e.symm)).trans (h.block i hi h1 h2)⟩
theorem below_grown0 {w w' : World} (k : Below w.heap.size w w') : w.grownBy w' none := ⟨k.os, k.tape, k.output, k.size, fun i hi _ => k.block i hi⟩
section
variable {P : Program} {ops : Array Oper} {Q : Exit → Act → World → Prop} {S : World → Prop}
theorem gs_start {id : Nat} {a : Act} {w : World} (hm : P.follows .mixedOrders = true) (h : wpAnyH P .any ops Q S ops.size (Array.replicate ops.size false) a w.drew) : (Code.region id ops true).wp P Q a w :=
  wp_region_held hm h
theorem gs_take {i : Nat} {oi : Oper} {d : Option Tmp} {v : Value} {fuel : Nat} {listed : Array Bool} {a : Act} {w : World} (hi : ops[i]? = some oi) (hd : oi.dst = d) (hst : stat ops listed i = true)
    (hQ : ∀ c a w, Q (.panic c) (a.put d v) w → Q (.panic c) a w) (hw : Region.wanted oi (yielded ops a.tmps) = true) (hS : S w)
    (hy : ∀ w', S w' → (execOp a.eval oi).run P w' = .ok (.value v) w')
    (h : wpAnyH P .any ops Q S fuel (listed.setIfInBounds i true) (a.put d v) w) : wpAnyH P .any ops Q S (fuel + 1) listed a w := by
  subst hd
  unfold stat at hst
  rw [Bool.and_eq_true, Bool.and_eq_true] at hst
  exact wpAnyH_take hi hst.1.1 hst.1.2 hst.2 hQ (.inl ⟨hw, hy⟩) hS h
theorem gs_run {i : Nat} {oi : Oper} {fuel : Nat} {listed : Array Bool} {a : Act} {w : World} (hi : ops[i]? = some oi) (hr : Region.ready .any ops listed = [i])
    (hw : Region.wanted oi (yielded ops a.tmps) = true)
    (h : ∀ K : Act → World → Prop, (∀ a' w', S w' ∧ wpAnyH P .any ops Q S fuel (listed.setIfInBounds i true) a' w' → K a' w') → oi.wp P a w K Q) : wpAnyH P .any ops Q S (fuel + 1) listed a w := by
  refine wpAnyH_all hr (by simp) ?_
  intro j hj
  rw [List.mem_singleton] at hj
  subst hj
  unfold wpOp
  simp only [hi, hw, if_true]
  exact .inl (h _ (fun a' w' k => k))
theorem gs_run2 {i k : Nat} {oi ok : Oper} {fuel : Nat} {listed : Array Bool} {a : Act} {w : World} (hi : ops[i]? = some oi) (hk : ops[k]? = some ok) (hr : Region.ready .any ops listed = [i, k])
    (hwi : Region.wanted oi (yielded ops a.tmps) = true) (hwk : Region.wanted ok (yielded ops a.tmps) = true)
    (h1 : ∀ K : Act → World → Prop, (∀ a' w', S w' ∧ wpAnyH P .any ops Q S fuel (listed.setIfInBounds i true) a' w' → K a' w') → oi.wp P a w K Q)
    (h2 : ∀ K : Act → World → Prop, (∀ a' w', S w' ∧ wpAnyH P .any ops Q S fuel (listed.setIfInBounds k true) a' w' → K a' w') → ok.wp P a w K Q) : wpAnyH P .any ops Q S (fuel + 1) listed a w := by
  refine wpAnyH_all hr (by simp) ?_
  intro j hj
  rw [List.mem_cons, List.mem_singleton] at hj
  rcases hj with rfl | rfl
  · unfold wpOp
    simp only [hi, hwi, if_true]
    exact .inl (h1 _ (fun a' w' k => k))
  · unfold wpOp
    simp only [hk, hwk, if_true]
    exact .inl (h2 _ (fun a' w' k => k))
theorem gs_done {listed : Array Bool} {fuel : Nat} {a : Act} {w : World} (hr : Region.ready .any ops listed = []) (h : Q .normal a w) : wpAnyH P .any ops Q S fuel listed a w :=
  wpAnyH_done hr h fuel
end
end Go.Proofs.Ytgmblgpfgdfnaaa
