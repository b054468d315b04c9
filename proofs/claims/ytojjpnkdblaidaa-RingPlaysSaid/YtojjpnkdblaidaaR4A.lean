/- How a ring lies in memory; its small calls. -/
import Derived.Test.YtojjpnkdblaidaaR4M
namespace Go.Proofs.Ytojjpnkdblaidaa
open Go Go.RowKit Go.Maps
set_option linter.unusedVariables false
set_option linter.unusedSimpArgs false
/-- The cells of a ring. -/
structure RC (cs : Array Value) (n : Nat) (bad : Nat → Bool) (M : Nat) (sv : Value) : Prop where
  size : cs.size = 67
  h0 : cs[0]? = some (.int .i64 (n : Int))
  hb : ∀ p, p < 64 → cs[1 + p]? = some (.bool (bad p))
  hm : cs[65]? = some (.map (some M))
  hs : cs[66]? = some sv
/-- How a ring lies in memory. -/
structure RG (w : World) (base B M n : Nat) (bad : Nat → Bool) (sv : Value) (L : List St) : Prop where
  hn : n ≤ 64
  wf : ∀ x ∈ L, x.Wf
  par : ∀ x ∈ L, 0 ≤ x.a ∧ x.a < n
  len : L.length ≤ 1000
  bB : base ≤ B
  bM : base ≤ M
  blk : ∃ cs : Array Value, w.heap[B]? = some (.cells cs 55 (0, 0)) ∧ RC cs n bad M sv
  map : w.ownsMap Try.prog 39 unitElem M L.length (setD L)
  row : w.ownsRow base 39 5 sv L.length (L.flatMap St.cs)
def isB (n : Nat) (p : Int) : Bool := decide (0 ≤ p) && decide (p < n)
theorem isB_t {n : Nat} {p : Int} (h : 0 ≤ p) (h' : p < n) : isB n p = true := by unfold isB; simp [h, h']
theorem isB_f1 {n : Nat} {p : Int} (h : ¬ 0 ≤ p) : isB n p = false := by unfold isB; simp [h]
theorem isB_f2 {n : Nat} {p : Int} (h : ¬ p < n) : isB n p = false := by unfold isB; simp [h]
theorem isB_iff {n : Nat} {p : Int} : isB n p = true ↔ 0 ≤ p ∧ p < n := by unfold isB; simp
theorem is_any (B : Nat) (n : Nat) (p : Int) (w : World) (h0 : w.cell? ⟨B, 0, none⟩ = some (.int .i64 (n : Int))) :
    Calls Try.prog 21 #[.pointer (some ⟨B, 0, none⟩), .int .i64 p] w fun e w' => e = .returned (.bool (isB n p)) ∧ w = w' := by
  by_cases h : 0 ≤ p
  · by_cases h' : p < n
    · rw [isB_t h h']
      go_enter Try.func21, Try.ntmps21
      go_wp2_with fail
      go_ret
      exact ⟨rfl, rfl⟩
    · rw [isB_f2 h']
      go_enter Try.func21, Try.ntmps21
      go_wp2_with fail
      go_ret
      exact ⟨rfl, rfl⟩
  · rw [isB_f1 h]
    go_enter Try.func21, Try.ntmps21
    go_wp2_with fail
    go_ret
    exact ⟨rfl, rfl⟩
theorem RG.cell0 {w : World} {base B M n : Nat} {bad : Nat → Bool} {sv : Value} {L : List St} (h : RG w base B M n bad sv L) : w.cell? ⟨B, 0, none⟩ = some (.int .i64 (n : Int)) := by
  obtain ⟨cs, h1, h2⟩ := h.blk
  rw [block_cell h1]; exact h2.h0
theorem RG.cellb {w : World} {base B M n : Nat} {bad : Nat → Bool} {sv : Value} {L : List St} (h : RG w base B M n bad sv L) (p : Nat) (hp : p < 64) : w.cell? ⟨B, 1 + p, none⟩ = some (.bool (bad p)) := by
  obtain ⟨cs, h1, h2⟩ := h.blk
  rw [block_cell h1]; exact h2.hb p hp
theorem RG.cellm {w : World} {base B M n : Nat} {bad : Nat → Bool} {sv : Value} {L : List St} (h : RG w base B M n bad sv L) : w.cell? ⟨B, 65, none⟩ = some (.map (some M)) := by
  obtain ⟨cs, h1, h2⟩ := h.blk
  rw [block_cell h1]; exact h2.hm
theorem RG.cells {w : World} {base B M n : Nat} {bad : Nat → Bool} {sv : Value} {L : List St} (h : RG w base B M n bad sv L) : w.cell? ⟨B, 66, none⟩ = some sv := by
  obtain ⟨cs, h1, h2⟩ := h.blk
  rw [block_cell h1]; exact h2.hs
/-- Who is bad. -/
def badB (n : Nat) (bad : Nat → Bool) (p : Int) : Bool := isB n p && bad p.toNat
theorem bad_any (base B M n : Nat) (bad : Nat → Bool) (sv : Value) (L : List St) (p : Int) (w : World) (h : RG w base B M n bad sv L) :
    Calls Try.prog 15 #[.pointer (some ⟨B, 0, none⟩), .int .i64 p] w fun e w' => e = .returned (.bool (badB n bad p)) ∧ w = w' := by
  have I := is_any B n p w h.cell0
  by_cases hp : 0 ≤ p ∧ p < n
  · obtain ⟨k, rfl⟩ : ∃ k : Nat, p = (k : Int) := ⟨p.toNat, by omega⟩
    have hk : k < 64 := by have := h.hn; omega
    have hc := h.cellb k hk
    rw [isB_t hp.1 hp.2] at I
    have e : badB n bad (k : Int) = bad k := by unfold badB; rw [isB_t hp.1 hp.2]; simp
    rw [e]
    clear h e hp
    go_enter Try.func15, Try.ntmps15
    go_wp2_with (go_at_call 21; refine I.mono ?_; rintro e w' ⟨rfl, rfl⟩)
    go_ret
    exact ⟨rfl, rfl⟩
  · have e0 : isB n p = false := by unfold isB; simp; omega
    have e : badB n bad p = false := by unfold badB; rw [e0]; rfl
    rw [e]
    rw [e0] at I
    clear h e e0 hp
    go_enter Try.func15, Try.ntmps15
    go_wp2_with (go_at_call 21; refine I.mono ?_; rintro e w' ⟨rfl, rfl⟩)
    go_ret
    exact ⟨rfl, rfl⟩
end Go.Proofs.Ytojjpnkdblaidaa
