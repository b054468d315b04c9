/- A region whose order is open, walked once: what only reads is taken first, since what was there stays as it was; what runs comes in the one order that its edges leave. -/
/- Slots: votes in memory; which numbers, votes, lists of votes, slots may be. Written by wip/tools/gen29a.py. -/
import Derived.Test.YtgmblgpfgdfnaaaDoorQSPC2
import Derived.OrdersHeld
import Derived.Deep.RegionWith
import Derived.Test.YtgmblgpfgdfnaaaDoorQSPC8
import Derived.Test.YtgmblgpfgdfnaaaDoorQSPC9
namespace Go.Proofs.YtgmblgpfgdfnaaaDoor
open Go.RowKit
set_option linter.unusedVariables false
section
variable {P : Program} {ops : Array Oper} {Q : Exit → Act → World → Prop} {md : Region.Mode}
theorem held_mono {S S' : World → Prop} (hS : ∀ w, S' w → S w) : ∀ (fuel : Nat) (listed : Array Bool) (a : Act) (w : World), wpAnyH P md ops Q S' fuel listed a w → wpAnyH P md ops Q S fuel listed a w
  | 0, _, _, _, h => h
  | fuel + 1, _, _, _, h => ⟨h.1, fun i hi => wpOp_mono (fun a' w' h' => ⟨hS _ h'.1, held_mono hS fuel _ a' w' h'.2⟩) (h.2 i hi)⟩
/-- Whatever order is picked from here on, and what is there now stays as it is. -/
def wpG (P : Program) (ops : Array Oper) (Q : Exit → Act → World → Prop) (fuel : Nat) (listed : Array Bool) (a : Act) (w : World) : Prop :=
  wpAnyH P .any ops Q (fun w' => Below w.heap.size w w') fuel listed a w
theorem g_start {id : Nat} {a : Act} {w : World} (hm : P.follows .mixedOrders = true) (h : wpG P ops Q ops.size (Array.replicate ops.size false) a w.drew) : (Code.region id ops true).wp P Q a w :=
  wp_region_held hm h
def stat (ops : Array Oper) (listed : Array Bool) (i : Nat) : Bool := Region.noSelect ops && Region.free .any ops listed i && (Region.ready .any ops listed).contains i
theorem g_take {i : Nat} {oi : Oper} {d : Option Tmp} {v : Value} {fuel : Nat} {listed : Array Bool} {a : Act} {w : World} (hi : ops[i]? = some oi) (hd : oi.dst = d) (hst : stat ops listed i = true)
    (hQ : ∀ c a w, Q (.panic c) (a.put d v) w → Q (.panic c) a w) (hw : Region.wanted oi (yielded ops a.tmps) = true)
    (hy : ∀ w', Below w.heap.size w w' → (execOp a.eval oi).run P w' = .ok (.value v) w')
    (h : wpG P ops Q fuel (listed.setIfInBounds i true) (a.put d v) w) : wpG P ops Q (fuel + 1) listed a w := by
  subst hd
  unfold stat at hst
  rw [Bool.and_eq_true, Bool.and_eq_true] at hst
  exact wpAnyH_take hi hst.1.1 hst.1.2 hst.2 hQ (.inl ⟨hw, hy⟩) (Below.refl _ _) h
theorem g_skip {i : Nat} {oi : Oper} {d : Option Tmp} {fuel : Nat} {listed : Array Bool} {a : Act} {w : World} (hi : ops[i]? = some oi) (hd : oi.dst = d) (hst : stat ops listed i = true)
    (hQ : ∀ c a w, Q (.panic c) (a.put d undef) w → Q (.panic c) a w) (hw : Region.wanted oi (yielded ops a.tmps) = false)
    (h : wpG P ops Q fuel (listed.setIfInBounds i true) (a.put d undef) w) : wpG P ops Q (fuel + 1) listed a w := by
  subst hd
  unfold stat at hst
  rw [Bool.and_eq_true, Bool.and_eq_true] at hst
  exact wpAnyH_take hi hst.1.1 hst.1.2 hst.2 hQ (.inr ⟨hw, rfl⟩) (Below.refl _ _) h
theorem g_run {i : Nat} {oi : Oper} {fuel : Nat} {listed : Array Bool} {a : Act} {w : World} (hi : ops[i]? = some oi) (hr : Region.ready .any ops listed = [i])
    (hw : Region.wanted oi (yielded ops a.tmps) = true)
    (h : ∀ K : Act → World → Prop, (∀ a' w', Below w.heap.size w w' ∧ wpG P ops Q fuel (listed.setIfInBounds i true) a' w' → K a' w') → oi.wp P a w K Q) : wpG P ops Q (fuel + 1) listed a w := by
  refine wpAnyH_all hr (by simp) ?_
  intro j hj
  rw [List.mem_singleton] at hj
  subst hj
  unfold wpOp
  simp only [hi, hw, if_true]
  refine .inl (h _ ?_)
  rintro a' w' ⟨hb, hg⟩
  refine ⟨hb, held_mono ?_ _ _ _ _ hg⟩
  intro w'' hb'
  exact hb.trans (hb'.mono hb.size)
theorem g_run2 {i k : Nat} {oi ok : Oper} {fuel : Nat} {listed : Array Bool} {a : Act} {w : World} (hi : ops[i]? = some oi) (hk : ops[k]? = some ok) (hr : Region.ready .any ops listed = [i, k])
    (hwi : Region.wanted oi (yielded ops a.tmps) = true) (hwk : Region.wanted ok (yielded ops a.tmps) = true)
    (h1 : ∀ K : Act → World → Prop, (∀ a' w', Below w.heap.size w w' ∧ wpG P ops Q fuel (listed.setIfInBounds i true) a' w' → K a' w') → oi.wp P a w K Q)
    (h2 : ∀ K : Act → World → Prop, (∀ a' w', Below w.heap.size w w' ∧ wpG P ops Q fuel (listed.setIfInBounds k true) a' w' → K a' w') → ok.wp P a w K Q) : wpG P ops Q (fuel + 1) listed a w := by
  refine wpAnyH_all hr (by simp) ?_
  intro j hj
  rw [List.mem_cons, List.mem_singleton] at hj
  rcases hj with rfl | rfl
  · unfold wpOp
    simp only [hi, hwi, if_true]
    refine .inl (h1 _ ?_)
    rintro a' w' ⟨hb, hg⟩
    exact ⟨hb, held_mono (fun w'' h'' => hb.trans (h''.mono hb.size)) _ _ _ _ hg⟩
  · unfold wpOp
    simp only [hk, hwk, if_true]
    refine .inl (h2 _ ?_)
    rintro a' w' ⟨hb, hg⟩
    exact ⟨hb, held_mono (fun w'' h'' => hb.trans (h''.mono hb.size)) _ _ _ _ hg⟩
theorem g_done {listed : Array Bool} {fuel : Nat} {a : Act} {w : World} (hr : Region.ready .any ops listed = []) (h : Q .normal a w) : wpG P ops Q fuel listed a w :=
  wpAnyH_done hr h fuel
end
end Go.Proofs.YtgmblgpfgdfnaaaDoor
namespace Go.Proofs.YtgmblgpfgdfnaaaDoor
open Go Go.RowKit
set_option linter.unusedVariables false
set_option linter.unusedSimpArgs false
set_option maxRecDepth 100000
def vtC (x : Vt) : List Value := [.int .i64 x.fr, .int .i64 x.vw, .int .i64 x.tm]
def vtV (x : Vt) : Value := .agg #[.int .i64 x.fr, .int .i64 x.vw, .int .i64 x.tm]
theorem vtC_len (x : Vt) : (vtC x).length = 3 := rfl
theorem vtC_one (x : Vt) : ∀ u ∈ vtC x, u.oneCell' = true := by
  intro u hu
  simp only [vtC, List.mem_cons, List.not_mem_nil, or_false] at hu
  rcases hu with rfl | rfl | rfl <;> rfl
def RdT (w : World) (v : Value) (l : List Vt) : Prop := RdK 3 vtC w v l
theorem RdT.below {w w' : World} {v : Value} {l : List Vt} (h : RdT w v l) {B : Nat} (hb : Below B w w') (hB : w.heap.size ≤ B) : RdT w' v l := RdK.below h hb hB
theorem block_cells3 {w : World} {B : Nat} {a0 a1 a2 : Value} {t : TypeId} (h : w.heap[B]? = some (.cells #[a0, a1, a2] t (0, 0))) :
    w.cell? ⟨B, 0, none⟩ = some a0 ∧ w.cell? ⟨B, 1, none⟩ = some a1 ∧ w.cell? ⟨B, 2, none⟩ = some a2 ∧ ∀ i, w.frozen? ⟨B, i, none⟩ = false := by
  refine ⟨?_, ?_, ?_, ?_⟩
  all_goals simp [World.cell?, World.frozen?, h]
theorem block_cells6 {w : World} {B : Nat} {a0 a1 a2 a3 a4 a5 : Value} {t : TypeId} (h : w.heap[B]? = some (.cells #[a0, a1, a2, a3, a4, a5] t (0, 0))) :
    w.cell? ⟨B, 0, none⟩ = some a0 ∧ w.cell? ⟨B, 1, none⟩ = some a1 ∧ w.cell? ⟨B, 2, none⟩ = some a2 ∧ w.cell? ⟨B, 3, none⟩ = some a3 ∧ w.cell? ⟨B, 4, none⟩ = some a4 ∧ w.cell? ⟨B, 5, none⟩ = some a5 ∧ ∀ i, w.frozen? ⟨B, i, none⟩ = false := by
  refine ⟨?_, ?_, ?_, ?_, ?_, ?_, ?_⟩
  all_goals simp [World.cell?, World.frozen?, h]
/-- An element that is read: its three cells. -/
theorem rdt_cells {w : World} {ao : Option Addr} {n cap : Nat} {l : List Vt} (h : RdT w (.slice ao n cap) l) (j : Nat) (hj : j < l.length) :
    ∃ b off, ao = some ⟨b, off, none⟩ ∧ b < w.heap.size ∧ w.cell? ⟨b, off + j * 3, none⟩ = some (.int .i64 l[j].fr) ∧ w.cell? ⟨b, off + j * 3 + 1, none⟩ = some (.int .i64 l[j].vw) ∧ w.cell? ⟨b, off + j * 3 + 2, none⟩ = some (.int .i64 l[j].tm) := by
  obtain ⟨b, off, h1, h2, h3⟩ := RdK.cell vtC_len h j hj
  exact ⟨b, off, h1, h2, h3 0 (by omega), by rw [Nat.add_assoc]; exact h3 1 (by omega), by rw [Nat.add_assoc]; exact h3 2 (by omega)⟩
theorem ret_b {a b : Bool} (h : a = b) : Ending.returned (.bool a) = .returned (.bool b) := by rw [h]
theorem isNum_any (n : Int) (w : World) : Calls Tryd.prog 25 #[.int .i64 n] w fun e w' => e = .returned (.bool (numB n)) ∧ w = w' := by
  unfold numB
  by_cases h0 : 0 ≤ n
  · have d0 : decide (0 ≤ n) = true := decide_eq_true h0
    by_cases h1 : n ≤ 2147483647
    · have d1 : decide (n ≤ 2147483647) = true := decide_eq_true h1
      rw [d0, d1]
      go_enter Tryd.func25, Tryd.ntmps25
      go_wp2_with fail
      go_ret
      exact ⟨rfl, rfl⟩
    · have d1 : decide (n ≤ 2147483647) = false := decide_eq_false h1
      rw [d0, d1]
      go_enter Tryd.func25, Tryd.ntmps25
      go_wp2_with fail
      go_ret
      exact ⟨rfl, rfl⟩
  · have d0 : decide (0 ≤ n) = false := decide_eq_false h0
    rw [d0]
    go_enter Tryd.func25, Tryd.ntmps25
    go_wp2_with fail
    go_ret
    exact ⟨rfl, rfl⟩
theorem refNum_any (n : Int) (w : World) : Calls Tryd.prog 28 #[.int .i64 n] w fun e w' => e = .returned (.bool (numB n)) ∧ w = w' := by
  unfold numB
  by_cases h0 : 0 ≤ n
  · have d0 : decide (0 ≤ n) = true := decide_eq_true h0
    by_cases h1 : n ≤ 2147483647
    · have d1 : decide (n ≤ 2147483647) = true := decide_eq_true h1
      rw [d0, d1]
      go_enter Tryd.func28, Tryd.ntmps28
      go_wp2_with fail
      go_ret
      exact ⟨rfl, rfl⟩
    · have d1 : decide (n ≤ 2147483647) = false := decide_eq_false h1
      rw [d0, d1]
      go_enter Tryd.func28, Tryd.ntmps28
      go_wp2_with fail
      go_ret
      exact ⟨rfl, rfl⟩
  · have d0 : decide (0 ≤ n) = false := decide_eq_false h0
    rw [d0]
    go_enter Tryd.func28, Tryd.ntmps28
    go_wp2_with fail
    go_ret
    exact ⟨rfl, rfl⟩
theorem isVote_any (x : Vt) (w : World) : Calls Tryd.prog 42 #[vtV x] w fun e w' => e = .returned (.bool (voteB x)) ∧ Below w.heap.size w w' := by
  obtain ⟨a, b, c⟩ := x
  have q0 := heap_alloc_new w (.cells #[.int .i64 a, .int .i64 b, .int .i64 c] 26)
  have B0 := (Below.refl w.heap.size w).alloc (Nat.le_refl _) (.cells #[.int .i64 a, .int .i64 b, .int .i64 c] 26)
  have IB := fun w => isNum_any b w
  have IC := fun w => isNum_any c w
  unfold voteB vtV
  simp only
  obtain ⟨vb, hvb⟩ : ∃ vb, vb = numB b := ⟨_, rfl⟩
  obtain ⟨vc, hvc⟩ : ∃ vc, vc = numB c := ⟨_, rfl⟩
  rw [← hvb] at IB ⊢
  rw [← hvc] at IC ⊢
  have IB := Lib.hid IB
  have IC := Lib.hid IC
  clear hvb hvc
  by_cases h0 : 0 ≤ a
  · have d0 : decide (0 ≤ a) = true := decide_eq_true h0
    by_cases h1 : a ≤ 63
    · have d1 : decide (a ≤ 63) = true := decide_eq_true h1
      rw [d0, d1]
      cases vb with
      | false =>
        go_enter Tryd.func42, Tryd.ntmps42
        go_wp2_with (first | ((with_reducible refine (IB.out _).mono ?_); rintro e w1 ⟨rfl, rfl⟩) | ((with_reducible refine (IC.out _).mono ?_); rintro e w1 ⟨rfl, rfl⟩))
        go_ret
        exact ⟨rfl, B0⟩
      | true =>
        cases vc with
        | false =>
          go_enter Tryd.func42, Tryd.ntmps42
          go_wp2_with (first | ((with_reducible refine (IB.out _).mono ?_); rintro e w1 ⟨rfl, rfl⟩) | ((with_reducible refine (IC.out _).mono ?_); rintro e w1 ⟨rfl, rfl⟩))
          go_ret
          exact ⟨rfl, B0⟩
        | true =>
          go_enter Tryd.func42, Tryd.ntmps42
          go_wp2_with (first | ((with_reducible refine (IB.out _).mono ?_); rintro e w1 ⟨rfl, rfl⟩) | ((with_reducible refine (IC.out _).mono ?_); rintro e w1 ⟨rfl, rfl⟩))
          go_ret
          exact ⟨rfl, B0⟩
    · have d1 : decide (a ≤ 63) = false := decide_eq_false h1
      rw [d0, d1]
      go_enter Tryd.func42, Tryd.ntmps42
      go_wp2_with (first | ((with_reducible refine (IB.out _).mono ?_); rintro e w1 ⟨rfl, rfl⟩) | ((with_reducible refine (IC.out _).mono ?_); rintro e w1 ⟨rfl, rfl⟩))
      go_ret
      exact ⟨rfl, B0⟩
  · have d0 : decide (0 ≤ a) = false := decide_eq_false h0
    rw [d0]
    go_enter Tryd.func42, Tryd.ntmps42
    go_wp2_with (first | ((with_reducible refine (IB.out _).mono ?_); rintro e w1 ⟨rfl, rfl⟩) | ((with_reducible refine (IC.out _).mono ?_); rintro e w1 ⟨rfl, rfl⟩))
    go_ret
    exact ⟨rfl, B0⟩
theorem refVote_any (x : Vt) (w : World) : Calls Tryd.prog 29 #[vtV x] w fun e w' => e = .returned (.bool (voteB x)) ∧ Below w.heap.size w w' := by
  obtain ⟨a, b, c⟩ := x
  have q0 := heap_alloc_new w (.cells #[.int .i64 a, .int .i64 b, .int .i64 c] 26)
  have B0 := (Below.refl w.heap.size w).alloc (Nat.le_refl _) (.cells #[.int .i64 a, .int .i64 b, .int .i64 c] 26)
  have IB := fun w => refNum_any b w
  have IC := fun w => refNum_any c w
  unfold voteB vtV
  simp only
  obtain ⟨vb, hvb⟩ : ∃ vb, vb = numB b := ⟨_, rfl⟩
  obtain ⟨vc, hvc⟩ : ∃ vc, vc = numB c := ⟨_, rfl⟩
  rw [← hvb] at IB ⊢
  rw [← hvc] at IC ⊢
  have IB := Lib.hid IB
  have IC := Lib.hid IC
  clear hvb hvc
  by_cases h0 : 0 ≤ a
  · have d0 : decide (0 ≤ a) = true := decide_eq_true h0
    by_cases h1 : a ≤ 63
    · have d1 : decide (a ≤ 63) = true := decide_eq_true h1
      rw [d0, d1]
      cases vb with
      | false =>
        go_enter Tryd.func29, Tryd.ntmps29
        go_wp2_with (first | ((with_reducible refine (IB.out _).mono ?_); rintro e w1 ⟨rfl, rfl⟩) | ((with_reducible refine (IC.out _).mono ?_); rintro e w1 ⟨rfl, rfl⟩))
        go_ret
        exact ⟨rfl, B0⟩
      | true =>
        cases vc with
        | false =>
          go_enter Tryd.func29, Tryd.ntmps29
          go_wp2_with (first | ((with_reducible refine (IB.out _).mono ?_); rintro e w1 ⟨rfl, rfl⟩) | ((with_reducible refine (IC.out _).mono ?_); rintro e w1 ⟨rfl, rfl⟩))
          go_ret
          exact ⟨rfl, B0⟩
        | true =>
          go_enter Tryd.func29, Tryd.ntmps29
          go_wp2_with (first | ((with_reducible refine (IB.out _).mono ?_); rintro e w1 ⟨rfl, rfl⟩) | ((with_reducible refine (IC.out _).mono ?_); rintro e w1 ⟨rfl, rfl⟩))
          go_ret
          exact ⟨rfl, B0⟩
    · have d1 : decide (a ≤ 63) = false := decide_eq_false h1
      rw [d0, d1]
      go_enter Tryd.func29, Tryd.ntmps29
      go_wp2_with (first | ((with_reducible refine (IB.out _).mono ?_); rintro e w1 ⟨rfl, rfl⟩) | ((with_reducible refine (IC.out _).mono ?_); rintro e w1 ⟨rfl, rfl⟩))
      go_ret
      exact ⟨rfl, B0⟩
  · have d0 : decide (0 ≤ a) = false := decide_eq_false h0
    rw [d0]
    go_enter Tryd.func29, Tryd.ntmps29
    go_wp2_with (first | ((with_reducible refine (IB.out _).mono ?_); rintro e w1 ⟨rfl, rfl⟩) | ((with_reducible refine (IC.out _).mono ?_); rintro e w1 ⟨rfl, rfl⟩))
    go_ret
    exact ⟨rfl, B0⟩
end Go.Proofs.YtgmblgpfgdfnaaaDoor
