/- Small lemmas of my own on memory: blocks that are laid, cells that are set; they speak of no program in particular. -/
/- Quorums: how many replicas, faults, strong and weak; who leads. -/
/- Quorums: strong, weak, the document's faults, who leads. -/
/- Quorums: the document's faults; one number as a set. -/
import Derived.Test.YtgmblgpfgdfnaaaDoorQSPC1
import Derived.WalkSpells
import Derived.Handy
import Derived.Deep.Light
import Derived.Deep.Draws
import Derived.Test.YtgmblgpfgdfnaaaDoorProg
import Derived.WalkKit
namespace Go.Proofs.YtgmblgpfgdfnaaaDoor
open Go.RowKit
set_option linter.unusedVariables false
set_option linter.unusedSimpArgs false
theorem two_allocs (w : World) (a b : Obj) :
    ((w.alloc a).alloc b).heap[w.heap.size]? = some a ∧ ((w.alloc a).alloc b).heap[w.heap.size + 1]? = some b ∧ ((w.alloc a).alloc b).heap.size = w.heap.size + 2 ∧ ∀ k, k < w.heap.size → ((w.alloc a).alloc b).heap[k]? = w.heap[k]? := by
  have z1 : (w.alloc a).heap.size = w.heap.size + 1 := by simp
  refine ⟨?_, ?_, by simp, ?_⟩
  · rw [heap_alloc_old _ _ (by omega), heap_alloc_new]
  · rw [← z1, heap_alloc_new]
  · intro k hk
    rw [heap_alloc_old _ _ (by omega), heap_alloc_old _ _ hk]
theorem lt_of_block {w : World} {k : Nat} {o : Obj} (h : w.heap[k]? = some o) : k < w.heap.size := (Array.getElem?_eq_some_iff.1 h).1
theorem set_old {w : World} {B i k : Nat} {u : Value} (h : k ≠ B) : (w.setCell ⟨B, i, none⟩ u).heap[k]? = w.heap[k]? := heap_setCell_other w ⟨B, i, none⟩ k u (by simpa using h)
theorem block_cell {w : World} {B : Nat} {cs : Array Value} {t : TypeId} (h : w.heap[B]? = some (.cells cs t (0, 0))) (i : Nat) : w.cell? ⟨B, i, none⟩ = cs[i]? := by
  simp [World.cell?, h]
theorem block_frozen {w : World} {B : Nat} {cs : Array Value} {t : TypeId} (h : w.heap[B]? = some (.cells cs t (0, 0))) (i : Nat) : w.frozen? ⟨B, i, none⟩ = false := by
  simp [World.frozen?, h]
theorem chain {W wx w' : World} (B : Below W.heap.size W wx) (g : Below wx.heap.size wx w') : Below W.heap.size W w' := B.trans (g.mono B.size)
theorem up {P : Program} {F : Nat} {args : Array Value} {w W : World} {x : Ending} (h : Calls P F args w fun e w' => e = x ∧ Below w.heap.size w w') (hb : Below W.heap.size W w) : Calls P F args w fun e w' => e = x ∧ Below W.heap.size W w' :=
  h.mono fun e w' ⟨a, g⟩ => ⟨a, hb.trans (g.mono hb.size)⟩
theorem below_drewN {w0 w : World} {n k : Nat} (h : Below n w0 w) : Below n w0 (w.drewN k) := ⟨h.os, h.tape, h.output, h.size, h.block⟩
theorem block_cells2 {w : World} {B : Nat} {a0 a1 : Value} {t : TypeId} (h : w.heap[B]? = some (.cells #[a0, a1] t (0, 0))) :
    w.cell? ⟨B, 0, none⟩ = some a0 ∧ w.cell? ⟨B, 1, none⟩ = some a1 ∧ ∀ i, w.frozen? ⟨B, i, none⟩ = false := by
  refine ⟨?_, ?_, ?_⟩
  all_goals simp [World.cell?, World.frozen?, h]
theorem block_cells4 {w : World} {B : Nat} {a0 a1 a2 a3 : Value} {t : TypeId} (h : w.heap[B]? = some (.cells #[a0, a1, a2, a3] t (0, 0))) :
    w.cell? ⟨B, 0, none⟩ = some a0 ∧ w.cell? ⟨B, 1, none⟩ = some a1 ∧ w.cell? ⟨B, 2, none⟩ = some a2 ∧ w.cell? ⟨B, 3, none⟩ = some a3 ∧ ∀ i, w.frozen? ⟨B, i, none⟩ = false := by
  refine ⟨?_, ?_, ?_, ?_, ?_⟩
  all_goals simp [World.cell?, World.frozen?, h]
theorem block_cells8 {w : World} {B : Nat} {a0 a1 a2 a3 a4 a5 a6 a7 : Value} {t : TypeId} (h : w.heap[B]? = some (.cells #[a0, a1, a2, a3, a4, a5, a6, a7] t (0, 0))) :
    w.cell? ⟨B, 0, none⟩ = some a0 ∧ w.cell? ⟨B, 1, none⟩ = some a1 ∧ w.cell? ⟨B, 2, none⟩ = some a2 ∧ w.cell? ⟨B, 3, none⟩ = some a3 ∧ w.cell? ⟨B, 4, none⟩ = some a4 ∧ w.cell? ⟨B, 5, none⟩ = some a5 ∧ w.cell? ⟨B, 6, none⟩ = some a6 ∧ w.cell? ⟨B, 7, none⟩ = some a7 ∧ ∀ i, w.frozen? ⟨B, i, none⟩ = false := by
  refine ⟨?_, ?_, ?_, ?_, ?_, ?_, ?_, ?_, ?_⟩
  all_goals simp [World.cell?, World.frozen?, h]
theorem block_cells13 {w : World} {B : Nat} {a0 a1 a2 a3 a4 a5 a6 a7 a8 a9 a10 a11 a12 : Value} {t : TypeId} (h : w.heap[B]? = some (.cells #[a0, a1, a2, a3, a4, a5, a6, a7, a8, a9, a10, a11, a12] t (0, 0))) :
    w.cell? ⟨B, 0, none⟩ = some a0 ∧ w.cell? ⟨B, 1, none⟩ = some a1 ∧ w.cell? ⟨B, 2, none⟩ = some a2 ∧ w.cell? ⟨B, 3, none⟩ = some a3 ∧ w.cell? ⟨B, 4, none⟩ = some a4 ∧ w.cell? ⟨B, 5, none⟩ = some a5 ∧ w.cell? ⟨B, 6, none⟩ = some a6 ∧ w.cell? ⟨B, 7, none⟩ = some a7 ∧ w.cell? ⟨B, 8, none⟩ = some a8 ∧ w.cell? ⟨B, 9, none⟩ = some a9 ∧ w.cell? ⟨B, 10, none⟩ = some a10 ∧ w.cell? ⟨B, 11, none⟩ = some a11 ∧ w.cell? ⟨B, 12, none⟩ = some a12 ∧ ∀ i, w.frozen? ⟨B, i, none⟩ = false := by
  refine ⟨?_, ?_, ?_, ?_, ?_, ?_, ?_, ?_, ?_, ?_, ?_, ?_, ?_, ?_⟩
  all_goals simp [World.cell?, World.frozen?, h]
theorem set_at {w : World} {B i : Nat} {cs : Array Value} {t : TypeId} {u : Value} (h : w.heap[B]? = some (.cells cs t (0, 0))) : (w.setCell ⟨B, i, none⟩ u).heap[B]? = some (.cells (cs.setIfInBounds i u) t (0, 0)) :=
  heap_setCell_same w B i cs t u h
theorem set4_new {w : World} {B : Nat} {a0 a1 a2 a3 u0 u1 u2 u3 : Value} {t : TypeId} (h : w.heap[B]? = some (.cells #[a0, a1, a2, a3] t (0, 0))) :
    ((((w.setCell ⟨B, 0, none⟩ u0).setCell ⟨B, 1, none⟩ u1).setCell ⟨B, 2, none⟩ u2).setCell ⟨B, 3, none⟩ u3).heap[B]? = some (.cells #[u0, u1, u2, u3] t (0, 0)) := by
  simpa using set_at (i := 3) (u := u3) (set_at (i := 2) (u := u2) (set_at (i := 1) (u := u1) (set_at (i := 0) (u := u0) h)))
theorem set4_old {w : World} {B k : Nat} {u0 u1 u2 u3 : Value} (h : k ≠ B) :
    ((((w.setCell ⟨B, 0, none⟩ u0).setCell ⟨B, 1, none⟩ u1).setCell ⟨B, 2, none⟩ u2).setCell ⟨B, 3, none⟩ u3).heap[k]? = w.heap[k]? := by
  rw [set_old h, set_old h, set_old h, set_old h]
theorem grown_setB {w wr : World} {B i : Nat} {u : Value} (h : w.grownBy wr (some B)) : w.grownBy (wr.setCell ⟨B, i, none⟩ u) (some B) :=
  ⟨h.os, h.tape, h.output, by have := h.size; simpa using this, fun k hk hr => (set_old (fun e => hr (by rw [e]))).trans (h.block k hk hr)⟩
theorem grown_drewB {w wr : World} {r : Option Nat} (h : w.grownBy wr r) : w.grownBy wr.drew r := ⟨h.os, h.tape, h.output, h.size, h.block⟩
theorem grown_reflB {w : World} {r : Option Nat} : w.grownBy w r := ⟨rfl, rfl, rfl, Nat.le_refl _, fun _ _ _ => rfl⟩
theorem grown_belowB {w wr w' : World} {r : Option Nat} (h : w.grownBy wr r) (g : Below wr.heap.size wr w') : w.grownBy w' r :=
  ⟨g.os.trans h.os, g.tape.trans h.tape, g.output.trans h.output, Nat.le_trans h.size g.size, fun k hk hr => (g.block k (Nat.lt_of_lt_of_le hk h.size)).trans (h.block k hk hr)⟩
theorem grown_transB {a b c : World} {r : Option Nat} (h : a.grownBy b r) (k : b.grownBy c r) : a.grownBy c r :=
  ⟨k.os.trans h.os, k.tape.trans h.tape, k.output.trans h.output, Nat.le_trans h.size k.size, fun i hi hr => (k.block i (Nat.lt_of_lt_of_le hi h.size) hr).trans (h.block i hi hr)⟩
end Go.Proofs.YtgmblgpfgdfnaaaDoor
namespace Go.Proofs.YtgmblgpfgdfnaaaDoor
open Go.RowKit
set_option linter.unusedVariables false
set_option linter.unusedSimpArgs false
/-- How many faults so many replicas bear; 0: they are no such number. -/
def fN (n : Int) : Int := if n = 4 then 1 else if n = 7 then 2 else if n = 10 then 3 else if n = 13 then 4 else if n = 16 then 5 else 0
set_option maxRecDepth 100000 in
theorem replicas_yes (f : Int) (h1 : 1 ≤ f) (h2 : f ≤ 5) (w : World) :
    Calls Tryd.prog 49 #[.int .i64 f] w fun e w' => e = .returned (.tuple #[.int .i64 (3 * f + 1), .int .i64 0]) ∧ w = w' := by
  go_enter Tryd.func49, Tryd.ntmps49
  go_wp2
  go_ret2
  exact ⟨rfl, rfl⟩
set_option maxRecDepth 100000 in
theorem replicas_no (f : Int) (h : f < 1 ∨ 5 < f) (w : World) :
    Calls Tryd.prog 49 #[.int .i64 f] w fun e w' => e = .returned (.tuple #[.int .i64 0, .int .i64 1]) ∧ w = w' := by
  rcases (show f < 1 ∨ (1 ≤ f ∧ 5 < f) by omega) with h | ⟨h, h2⟩
  all_goals
    go_enter Tryd.func49, Tryd.ntmps49
    go_wp2
    go_ret2
    exact ⟨rfl, rfl⟩
theorem fN_cases (n : Int) : (n = 4 ∧ fN n = 1) ∨ (n = 7 ∧ fN n = 2) ∨ (n = 10 ∧ fN n = 3) ∨ (n = 13 ∧ fN n = 4) ∨ (n = 16 ∧ fN n = 5) ∨ (fN n = 0 ∧ n ≠ 4 ∧ n ≠ 7 ∧ n ≠ 10 ∧ n ≠ 13 ∧ n ≠ 16) := by
  unfold fN
  repeat' split
  all_goals omega
theorem fN_yes (n q : Int) (hr : 1 ≤ q ∧ q ≤ 5) (he : 3 * q + 1 = n) : fN n = q := by
  have h5 : q = 1 ∨ q = 2 ∨ q = 3 ∨ q = 4 ∨ q = 5 := by omega
  rcases h5 with rfl | rfl | rfl | rfl | rfl <;> (subst he; decide)
theorem fN_no (n q : Int) (hq : n.tdiv 3 = q) (h : ¬ (1 ≤ q ∧ q ≤ 5) ∨ ¬ 3 * q + 1 = n) : fN n = 0 := by
  rcases fN_cases n with ⟨rfl, _⟩ | ⟨rfl, _⟩ | ⟨rfl, _⟩ | ⟨rfl, _⟩ | ⟨rfl, _⟩ | ⟨h0, _⟩
  case inr.inr.inr.inr.inr => exact h0
  all_goals
    have e : q = _ := hq.symm
    simp at e
    omega
theorem tdiv3 (n : Int) : 3 * n.tdiv 3 - 2 ≤ n ∧ n ≤ 3 * n.tdiv 3 + 2 := by
  by_cases h : 0 ≤ n
  · rw [Int.tdiv_eq_ediv_of_nonneg h]; omega
  · have e : n.tdiv 3 = -((-n) / 3) := by
      rw [← Int.tdiv_eq_ediv_of_nonneg (by omega : 0 ≤ -n), Int.neg_tdiv, Int.neg_neg]
    rw [e]; omega
set_option maxRecDepth 100000 in
theorem faults_any (n : Int) (hn : -9223372036854775808 ≤ n ∧ n ≤ 9223372036854775807) (w : World) :
    Calls Tryd.prog 35 #[.int .i64 n] w fun e w' => e = .returned (.tuple #[.int .i64 (fN n), .int .i64 (if fN n = 0 then 1 else 0)]) ∧ w = w' := by
  obtain ⟨q, hq⟩ : ∃ q, n.tdiv 3 = q := ⟨_, rfl⟩
  have hw : wrap64 q = q := by
    have := tdiv3 n
    rw [hq] at this
    simp [wrap64]; omega
  clear hn
  by_cases hr : 1 ≤ q ∧ q ≤ 5
  · have R := replicas_yes q hr.1 hr.2
    by_cases he : 3 * q + 1 = n
    · rw [fN_yes n q hr he, if_neg (show ¬ q = 0 by omega)]
      rw [he] at R
      clear hr he
      go_enter Tryd.func35, Tryd.ntmps35
      go_wp2_with fail
      refine (R _).mono ?_
      rintro e w1 ⟨rfl, rfl⟩
      clear hq R
      go_wp2_with fail
      go_ret2
      exact ⟨rfl, rfl⟩
    · rw [fN_no n q hq (.inr he), if_pos rfl]
      clear hr
      go_enter Tryd.func35, Tryd.ntmps35
      go_wp2_with fail
      refine (R _).mono ?_
      rintro e w1 ⟨rfl, rfl⟩
      clear hq R
      go_wp2_with fail
      go_ret2
      exact ⟨rfl, rfl⟩
  · have R := replicas_no q (by omega)
    rw [fN_no n q hq (.inl hr), if_pos rfl]
    clear hr
    go_enter Tryd.func35, Tryd.ntmps35
    go_wp2_with fail
    refine (R _).mono ?_
    rintro e w1 ⟨rfl, rfl⟩
    clear hq R
    go_wp2_with fail
    go_ret2
    exact ⟨rfl, rfl⟩
end Go.Proofs.YtgmblgpfgdfnaaaDoor
namespace Go.Proofs.YtgmblgpfgdfnaaaDoor
open Go.RowKit
set_option linter.unusedVariables false
set_option linter.unusedSimpArgs false
set_option maxRecDepth 100000 in
theorem strong_any (n : Int) (hn : -9223372036854775808 ≤ n ∧ n ≤ 9223372036854775807) (w : World) :
    Calls Tryd.prog 54 #[.int .i64 n] w fun e w' => e = .returned (.int .i64 (if fN n = 0 then 0 else 2 * fN n + 1)) ∧ w = w' := by
  have R := faults_any n hn
  have hb : 0 ≤ fN n ∧ fN n ≤ 5 := by have := fN_cases n; omega
  generalize fN n = f at R hb ⊢
  clear hn
  by_cases h : f = 0
  · subst h
    simp only [if_true] at R ⊢
    go_enter Tryd.func54, Tryd.ntmps54
    go_wp2_with fail
    refine (R _).mono ?_
    rintro e w1 ⟨rfl, rfl⟩
    go_wp2_with fail
    go_ret
    exact ⟨rfl, rfl⟩
  · simp only [if_neg h] at R ⊢
    go_enter Tryd.func54, Tryd.ntmps54
    go_wp2_with fail
    refine (R _).mono ?_
    rintro e w1 ⟨rfl, rfl⟩
    go_wp2_with fail
    go_ret
    exact ⟨rfl, rfl⟩
end Go.Proofs.YtgmblgpfgdfnaaaDoor
namespace Go.Proofs.YtgmblgpfgdfnaaaDoor
open Go.RowKit
set_option linter.unusedVariables false
set_option linter.unusedSimpArgs false
set_option maxRecDepth 100000 in
theorem refFaults_any (n : Int) (w : World) :
    Calls Tryd.prog 23 #[.int .i64 n] w fun e w' => e = .returned (.int .i64 (fN n)) ∧ w = w' := by
  have hc := fN_cases n
  generalize fN n = f at hc ⊢
  have HC := Lib.hid hc
  clear hc
  go_enter Tryd.func23, Tryd.ntmps23
  go_wp2
  go_loop [3] (fun i => ∃ k : Nat, 1 ≤ k ∧ k ≤ 6 ∧ i = .int .i64 (k : Int) ∧ Hid (f = 0 ∨ (k : Int) ≤ f)) (fun i => 7 - (intOf i).toNat)
  case atStart => exact ⟨1, by omega, by omega, rfl, by have := HC.out; show _ ∨ _; omega⟩
  case round =>
    obtain ⟨k, h1, h2, rfl, hf⟩ := hrel
    by_cases hk : k ≤ 5
    · by_cases hn : n = 3 * (k : Int) + 1
      · have hfk : f = (k : Int) := by have := HC.out; omega
        have HF := Lib.hid hfk
        clear hfk hf
        go_wp2
        go_ret
        exact ⟨by rw [HF.out]; rfl, rfl⟩
      · have hf2 : f = 0 ∨ ((k + 1 : Nat) : Int) ≤ f := by have := HC.out; have := hf.out; omega
        have HF := Lib.hid hf2
        clear hf2 hf
        go_wp2
        exact ⟨⟨k + 1, by omega, by omega, by push_cast; rfl, HF⟩, by simp [intOf]; omega⟩
    · have hf0 : f = 0 := by have := HC.out; have := hf.out; omega
      have HF := Lib.hid hf0
      clear hf0 hf
      go_wp2
      go_ret
      exact ⟨by rw [HF.out]; rfl, rfl⟩
end Go.Proofs.YtgmblgpfgdfnaaaDoor
