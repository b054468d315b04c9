/- The clock: plain functions, and what the small Go functions come to. -/
import Derived.Test.YtfodafabkmepbaaProg
import Derived.WalkKit
import Derived.WalkSpells
import Derived.Lib.Hide
import Derived.Handy
import Derived.Deep.Light
namespace Go.Proofs.Ytfodafabkmepbaa
open Go.RowKit
set_option linter.unusedVariables false
set_option linter.unusedSimpArgs false
/-- A clock. -/
structure Ck where
  now : Int
  wait : Int
  base : Int
  cap : Int
  on : Bool
  due : Int
def I64 (v : Int) : Prop := -9223372036854775808 ≤ v ∧ v ≤ 9223372036854775807
def CkI (c : Ck) : Prop := I64 c.now ∧ I64 c.wait ∧ I64 c.base ∧ I64 c.cap ∧ I64 c.due
def ckV (c : Ck) : Value := .agg #[.int .i64 c.now, .int .i64 c.wait, .int .i64 c.base, .int .i64 c.cap, .bool c.on, .int .i64 c.due]
def zeroC : Ck := ⟨0, 0, 0, 0, false, 0⟩
def MayP (c : Ck) : Prop := 1 ≤ c.base ∧ c.base ≤ c.wait ∧ c.wait ≤ c.cap ∧ c.cap ≤ 1048576 ∧ 0 ≤ c.now ∧ c.now ≤ 1099511627776 ∧ (c.on = true → c.now < c.due ∧ c.due ≤ c.now + c.wait) ∧ (c.on = false → c.due = 0)
instance (c : Ck) : Decidable (MayP c) := by unfold MayP; infer_instance
def mayC (c : Ck) : Bool := decide (MayP c)
theorem mayC_true {c : Ck} (h : MayP c) : mayC c = true := decide_eq_true h
theorem mayC_false {c : Ck} (h : ¬ MayP c) : mayC c = false := decide_eq_false h
theorem ret_bool {a b : Bool} (h : a = b) : Ending.returned (.bool a) = .returned (.bool b) := by rw [h]
set_option maxRecDepth 100000 in
theorem may_any (c : Ck) (w : World) : Calls Try.prog 11 #[ckV c] w fun e w' => e = .returned (.bool (mayC c)) ∧ w' = w.alloc (.cells #[.int .i64 c.now, .int .i64 c.wait, .int .i64 c.base, .int .i64 c.cap, .bool c.on, .int .i64 c.due] 23) := by
  obtain ⟨n, wt, b, cp, o, d⟩ := c
  unfold ckV
  cases o
  all_goals
   go_enter Try.func11, Try.ntmps11
   go_wp2
  all_goals
    go_ret
    refine ⟨ret_bool ?_, rfl⟩
    go_light
    first
      | (refine (mayC_false ?_).symm; unfold MayP; simp; omega)
      | (refine (mayC_true ?_).symm; unfold MayP; simp; omega)
      | (rw [Bool.eq_iff_iff]; unfold mayC MayP; simp; omega)
/-- A block that holds a clock. -/
def Holds (w : World) (B : Nat) (c : Ck) : Prop := w.heap[B]? = some (.cells #[.int .i64 c.now, .int .i64 c.wait, .int .i64 c.base, .int .i64 c.cap, .bool c.on, .int .i64 c.due] 23 (0, 0))
theorem holds_cells {w : World} {B : Nat} {c : Ck} (h : Holds w B c) :
    w.cell? ⟨B, 0, none⟩ = some (.int .i64 c.now) ∧ w.cell? ⟨B, 1, none⟩ = some (.int .i64 c.wait) ∧ w.cell? ⟨B, 2, none⟩ = some (.int .i64 c.base) ∧ w.cell? ⟨B, 3, none⟩ = some (.int .i64 c.cap) ∧ w.cell? ⟨B, 4, none⟩ = some (.bool c.on) ∧ w.cell? ⟨B, 5, none⟩ = some (.int .i64 c.due) ∧ ∀ i, w.frozen? ⟨B, i, none⟩ = false := by
  unfold Holds at h
  refine ⟨?_, ?_, ?_, ?_, ?_, ?_, ?_⟩
  all_goals simp [World.cell?, World.frozen?, h]
theorem holds_set {w : World} {B : Nat} {cs : Array Value} {t : TypeId} (h : w.heap[B]? = some (.cells cs t (0, 0))) (i : Nat) (u : Value) :
    (w.setCell ⟨B, i, none⟩ u).heap[B]? = some (.cells (cs.setIfInBounds i u) t (0, 0)) ∧ w.grownBy (w.setCell ⟨B, i, none⟩ u) (some B) :=
  ⟨heap_setCell_same w B i cs t u h, ⟨rfl, rfl, rfl, by simp, fun k _ hk => heap_setCell_other w ⟨B, i, none⟩ k u (fun e => hk (by simp [e]))⟩⟩
theorem holds_drew {w : World} {B : Nat} {c : Ck} (h : Holds w B c) : Holds w.drew B c := h
theorem grown_drew {w : World} {r : Option Nat} : w.grownBy w.drew r := ⟨rfl, rfl, rfl, Nat.le_refl _, fun _ _ _ => rfl⟩
theorem grown_trans {a b c : World} {r : Option Nat} (h : a.grownBy b r) (k : b.grownBy c r) : a.grownBy c r :=
  ⟨k.os.trans h.os, k.tape.trans h.tape, k.output.trans h.output, Nat.le_trans h.size k.size, fun i hi hr => (k.block i (Nat.lt_of_lt_of_le hi h.size) hr).trans (h.block i hi hr)⟩
set_option maxRecDepth 100000 in
theorem start1_any (c : Ck) (B : Nat) (w : World) (h : Holds w B c) (h1 : 0 ≤ c.now) (h2 : c.now ≤ 1099511627776) (h3 : 0 ≤ c.wait) (h4 : c.wait ≤ 1048576) :
    Calls Try.prog 25 #[.pointer (some ⟨B, 0, none⟩)] w fun e w' => e = .returned (.tuple #[]) ∧ Holds w' B { c with on := true, due := c.now + c.wait } ∧ w.grownBy w' (some B) := by
  obtain ⟨k0, k1, k2, k3, k4, k5, kf⟩ := holds_cells h
  have f4 := kf 4
  have f5 := kf 5
  clear kf
  obtain ⟨n, wt, b, cp, o, d⟩ := c
  simp only [] at *
  have H := Lib.hid h
  clear h
  go_enter Try.func25, Try.ntmps25
  go_wp2
  go_region
  all_goals
    go_end0
    have s1 := holds_set (w := w) H.out 4 (.bool true)
    have s2 := holds_set s1.1 5 (.int .i64 (n + wt))
    exact ⟨rfl, holds_drew (by simpa [Holds] using s2.1), grown_trans (grown_trans s1.2 s2.2) grown_drew⟩
set_option maxRecDepth 100000 in
theorem halt_any (c : Ck) (B : Nat) (w : World) (h : Holds w B c) :
    Calls Try.prog 26 #[.pointer (some ⟨B, 0, none⟩)] w fun e w' => e = .returned (.tuple #[]) ∧ Holds w' B { c with on := false, due := 0 } ∧ w.grownBy w' (some B) := by
  obtain ⟨k0, k1, k2, k3, k4, k5, kf⟩ := holds_cells h
  have f4 := kf 4
  have f5 := kf 5
  clear kf
  obtain ⟨n, wt, b, cp, o, d⟩ := c
  simp only [] at *
  have H := Lib.hid h
  clear h
  go_enter Try.func26, Try.ntmps26
  go_wp2
  go_end0
  have s1 := holds_set (w := w) H.out 4 (.bool false)
  have s2 := holds_set s1.1 5 (.int .i64 0)
  exact ⟨rfl, by simpa [Holds] using s2.1, grown_trans s1.2 s2.2⟩
set_option maxRecDepth 100000 in
theorem new1_any (B : Nat) (w : World) :
    Calls Try.prog 24 #[.pointer (some ⟨B, 0, none⟩)] w fun e w' => e = .returned (.tuple #[]) ∧ w' = w := by
  go_enter Try.func24, Try.ntmps24
  go_wp2
  go_end0
  exact ⟨rfl, rfl⟩
set_option maxRecDepth 100000 in
theorem double1_any (c : Ck) (B : Nat) (w : World) (h : Holds w B c) (h3 : 0 ≤ c.wait) (h4 : c.wait ≤ 1048576) :
    Calls Try.prog 28 #[.pointer (some ⟨B, 0, none⟩)] w fun e w' => e = .returned (.tuple #[]) ∧ Holds w' B { c with wait := if c.cap < 2 * c.wait then c.cap else 2 * c.wait } ∧ w.grownBy w' (some B) := by
  obtain ⟨k0, k1, k2, k3, k4, k5, kf⟩ := holds_cells h
  have f1 := kf 1
  clear kf
  obtain ⟨n, wt, b, cp, o, d⟩ := c
  simp only [] at *
  have H := Lib.hid h
  clear h
  go_enter Try.func28, Try.ntmps28
  go_wp2
  go_region
  all_goals
    go_end0
    have s1 := holds_set (w := w) H.out 1 (.int .i64 (if cp < 2 * wt then cp else 2 * wt))
    exact ⟨rfl, holds_drew (by simpa [Holds] using s1.1), grown_trans s1.2 grown_drew⟩
set_option maxRecDepth 100000 in
theorem reset1_any (c : Ck) (B : Nat) (w : World) (h : Holds w B c) (h1 : 0 ≤ c.now) (h2 : c.now ≤ 1099511627776) (h3 : 0 ≤ c.base) (h4 : c.base ≤ 1048576) :
    Calls Try.prog 29 #[.pointer (some ⟨B, 0, none⟩)] w fun e w' => e = .returned (.tuple #[]) ∧ Holds w' B { c with wait := c.base, due := if c.on then (if c.now + c.base < c.due then c.now + c.base else c.due) else c.due } ∧ w.grownBy w' (some B) := by
  obtain ⟨k0, k1, k2, k3, k4, k5, kf⟩ := holds_cells h
  have f1 := kf 1
  have f5 := kf 5
  clear kf
  obtain ⟨n, wt, b, cp, o, d⟩ := c
  simp only [] at *
  have H := Lib.hid h
  clear h
  cases o
  · go_enter Try.func29, Try.ntmps29
    go_wp2
    go_end0
    have s1 := holds_set (w := w) H.out 1 (.int .i64 b)
    exact ⟨rfl, by simpa [Holds] using s1.1, s1.2⟩
  · go_enter Try.func29, Try.ntmps29
    go_wp2
    go_region
    all_goals
      go_end0
      have s1 := holds_set (w := w) H.out 1 (.int .i64 b)
      have s2 := holds_set s1.1 5 (.int .i64 (if n + b < d then n + b else d))
      exact ⟨rfl, holds_drew (by simpa [Holds] using s2.1), grown_trans (grown_trans s1.2 s2.2) grown_drew⟩
structure Kept2 (w w' : World) (B R : Nat) : Prop where
  size : w.heap.size ≤ w'.heap.size
  os : w'.os = w.os
  tape : w'.tape = w.tape
  output : w'.output = w.output
  block : ∀ k, k < w.heap.size → k ≠ B → k ≠ R → w'.heap[k]? = w.heap[k]?
theorem lt_of_block {w : World} {k : Nat} {o : Obj} (h : w.heap[k]? = some o) : k < w.heap.size := (Array.getElem?_eq_some_iff.1 h).1
theorem tick_world {w : World} {B R : Nat} {n wt b cp d : Int} {o : Bool} (hBR : B ≠ R) (h : Holds w B ⟨n, wt, b, cp, o, d⟩) (hr : w.heap[R]? = some (.cells #[.bool false] 4 (0, 0))) (m : Int) (x : Bool) :
    Holds ((w.setCell ⟨B, 0, none⟩ (.int .i64 m)).setCell ⟨R, 0, none⟩ (.bool x)) B ⟨m, wt, b, cp, o, d⟩ ∧
    ((w.setCell ⟨B, 0, none⟩ (.int .i64 m)).setCell ⟨R, 0, none⟩ (.bool x)).heap[R]? = some (.cells #[.bool x] 4 (0, 0)) ∧
    Kept2 w ((w.setCell ⟨B, 0, none⟩ (.int .i64 m)).setCell ⟨R, 0, none⟩ (.bool x)) B R ∧ R < ((w.setCell ⟨B, 0, none⟩ (.int .i64 m)).setCell ⟨R, 0, none⟩ (.bool x)).heap.size := by
  have hb := lt_of_block h
  have hrl := lt_of_block hr
  have s1 := holds_set h 0 (.int .i64 m)
  have r1 := (s1.2.block R hrl (by simp; exact fun e => hBR e.symm)).trans hr
  have s2 := holds_set r1 0 (.bool x)
  refine ⟨?_, by simpa using s2.1, ⟨Nat.le_trans s1.2.size s2.2.size, rfl, rfl, rfl, ?_⟩, Nat.lt_of_lt_of_le hrl (Nat.le_trans s1.2.size s2.2.size)⟩
  · unfold Holds
    rw [s2.2.block B (Nat.lt_of_lt_of_le hb s1.2.size) (by simp; exact hBR)]
    simpa using s1.1
  · intro k hk h1 h2
    rw [s2.2.block k (Nat.lt_of_lt_of_le hk s1.2.size) (by simp [h2]), s1.2.block k hk (by simp [h1])]
/-- What a tick makes of a clock, and whether it rings. -/
def tickC (c : Ck) : Ck := if c.on = true ∧ c.due = c.now + 1 then { c with now := c.now + 1, on := false, due := 0 } else { c with now := c.now + 1 }
def ringsC (c : Ck) : Bool := decide (c.on = true ∧ c.due = c.now + 1)
set_option maxRecDepth 100000 in
theorem tick1_any (c : Ck) (B R : Nat) (hBR : B ≠ R) (w : World) (h : Holds w B c) (r0 : w.heap[R]? = some (.cells #[.bool false] 4 (0, 0))) (h1 : 0 ≤ c.now) (h2 : c.now < 1099511627776) :
    Calls Try.prog 27 #[.pointer (some ⟨B, 0, none⟩), .pointer (some ⟨R, 0, none⟩)] w fun e w' => e = .returned (.tuple #[]) ∧ Holds w' B (tickC c) ∧ w'.heap[R]? = some (.cells #[.bool (ringsC c)] 4 (0, 0)) ∧
      w.heap.size ≤ w'.heap.size ∧ w'.os = w.os ∧ w'.tape = w.tape ∧ w'.output = w.output ∧ ∀ k, k < w.heap.size → k ≠ B → k ≠ R → w'.heap[k]? = w.heap[k]? := by
  obtain ⟨k0, k1, k2, k3, k4, k5, kf⟩ := holds_cells h
  have f0 := kf 0
  have f4 := kf 4
  have f5 := kf 5
  clear kf
  obtain ⟨n, wt, b, cp, o, d⟩ := c
  simp only [] at *
  have q0 : w.cell? ⟨R, 0, none⟩ = some (.bool false) := by simp [World.cell?, r0]
  have q1 : w.frozen? ⟨R, 0, none⟩ = false := by simp [World.frozen?, r0]
  have hRB : R ≠ B := fun e => hBR e.symm
  have H := Lib.hid h
  have HR := Lib.hid r0
  clear h r0
  by_cases hr : o = true ∧ d = n + 1
  · obtain ⟨rfl, hd⟩ := hr
    have he : (d == n + 1) = true := by simp [hd]
    have t1 : tickC ⟨n, wt, b, cp, true, d⟩ = ⟨n + 1, wt, b, cp, false, 0⟩ := if_pos ⟨rfl, hd⟩
    have t2 : ringsC ⟨n, wt, b, cp, true, d⟩ = true := decide_eq_true ⟨rfl, hd⟩
    have T1 := Lib.hid t1
    have T2 := Lib.hid t2
    clear hd t1 t2
    go_enter Try.func27, Try.ntmps27
    go_wp2
    go_region
    all_goals
      go_wp2_with fail
      obtain ⟨s1, s2, s3, s4⟩ := tick_world hBR H.out HR.out (n + 1) true
      refine (halt_any ⟨n + 1, wt, b, cp, true, d⟩ B _ (holds_drew s1)).mono ?_
      rintro e w3 ⟨rfl, g1, g2⟩
      go_wp2
      go_end0
      refine ⟨rfl, ?_, ?_, ?_⟩
      · rw [T1.out]; exact g1
      · rw [T2.out]
        rw [g2.block R s4 (by simp [hRB])]
        exact s2
      · refine ⟨Nat.le_trans s3.size g2.size, g2.os.trans s3.os, g2.tape.trans s3.tape, g2.output.trans s3.output, ?_⟩
        intro k hk h1 h2
        rw [g2.block k (Nat.lt_of_lt_of_le hk s3.size) (by simp [h1])]
        exact s3.block k hk h1 h2
  · have hx : (o = true ∧ (d == n + 1) = false) ∨ o = false := by
      cases o
      · exact .inr rfl
      · exact .inl ⟨rfl, by simp at hr ⊢; exact hr⟩
    have t1 : tickC ⟨n, wt, b, cp, o, d⟩ = ⟨n + 1, wt, b, cp, o, d⟩ := if_neg hr
    have t2 : ringsC ⟨n, wt, b, cp, o, d⟩ = false := decide_eq_false hr
    have T1 := Lib.hid t1
    have T2 := Lib.hid t2
    clear hr t1 t2
    rcases hx with ⟨rfl, hx⟩ | rfl
    all_goals
      go_enter Try.func27, Try.ntmps27
      go_wp2
      go_region
    all_goals
      go_wp2
      go_end0
      obtain ⟨s1, s2, s3, s4⟩ := tick_world hBR H.out HR.out (n + 1) false
      refine ⟨rfl, ?_, ?_, ?_⟩
      · rw [T1.out]; exact holds_drew s1
      · rw [T2.out]; exact s2
      · exact ⟨s3.size, s3.os, s3.tape, s3.output, s3.block⟩
end Go.Proofs.Ytfodafabkmepbaa
