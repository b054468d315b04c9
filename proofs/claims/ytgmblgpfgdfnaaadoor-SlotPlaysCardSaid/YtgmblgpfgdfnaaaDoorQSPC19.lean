/- A region whose order is open, walked once under a condition on the world that is chosen for it, its last operation whatever it is (a store, say): what only reads under the condition is taken first. -/
/- Slots: a vote is cast: Prepare, Commit, by the program. Written by wip/tools/gen29i.py. -/
import Derived.Test.YtgmblgpfgdfnaaaDoorQSPC17
import Derived.Test.YtgmblgpfgdfnaaaDoorQSPC18
namespace Go.Proofs.YtgmblgpfgdfnaaaDoor
open Go.RowKit
set_option linter.unusedVariables false
section
variable {P : Program} {ops : Array Oper} {Q : Exit → Act → World → Prop} {S : World → Prop} {n : Nat}
def wpV (P : Program) (ops : Array Oper) (n : Nat) (S : World → Prop) (Q : Exit → Act → World → Prop) (f : Nat) (l : Array Bool) (a : Act) (w : World) : Prop :=
  HeadInv .any ops n l → orders P .any ops n Q S f l a w
theorem v_start {id : Nat} {a : Act} {w : World} (n : Nat) (S : World → Prop) (hm : P.follows .mixedOrders = true) (h : wpV P ops n S Q ops.size (Array.replicate ops.size false) a w.drew) : (Code.region id ops true).wp P Q a w := by
  refine wp_region_any hm (orders_any (n := n) (S := S) _ _ _ _ (h ⟨by simp, ?_, ?_⟩))
  · intro j oj _ hl
    rw [getD_replicate_false] at hl
    cases hl
  · intro t ht hlt
    simp [hlt]
theorem v_take {i : Nat} {oi : Oper} {d : Option Tmp} {v : Value} {f : Nat} {l : Array Bool} {a : Act} {w : World} (hi : ops[i]? = some oi) (hd : oi.dst = d) (hst : statT ops n l i = true)
    (hQ : ∀ c a w, Q (.panic c) (a.put d v) w → Q (.panic c) a w) (hw : Region.wanted oi (yielded ops a.tmps) = true) (hS : S w)
    (hy : ∀ w', S w' → (execOp a.eval oi).run P w' = .ok (.value v) w')
    (h : wpV P ops n S Q f (l.setIfInBounds i true) (a.put d v) w) : wpV P ops n S Q (f + 1) l a w := by
  subst hd
  intro inv
  unfold statT at hst
  simp only [Bool.and_eq_true, decide_eq_true_eq] at hst
  obtain ⟨⟨⟨⟨⟨⟨h1, h2⟩, h3⟩, h4⟩, h5⟩, h6⟩, h7⟩ := hst
  have hr : i ∈ Region.ready .any ops l := by simpa using h3
  exact orders_first hi (Region.noSelect_spec h1) hQ h4 h5 h6 h7 f l a w inv (Region.free_spec hi h2) hr (.inl ⟨hw, hy⟩) hS (h (inv.set hr h7))
theorem v_run {i : Nat} {oi : Oper} {f : Nat} {l : Array Bool} {a : Act} {w : World} (hi : ops[i]? = some oi) (hr : Region.ready .any ops l = [i]) (hin : decide (i < n) = true)
    (hw : Region.wanted oi (yielded ops a.tmps) = true)
    (h : ∀ K : Act → World → Prop, (∀ a' w', S w' ∧ wpV P ops n S Q f (l.setIfInBounds i true) a' w' → K a' w') → oi.wp P a w K Q) : wpV P ops n S Q (f + 1) l a w := by
  intro inv
  have hm : i ∈ Region.ready .any ops l := by rw [hr]; simp
  refine ⟨fun e => (by rw [hr] at e; cases e), ?_⟩
  intro j hj
  rw [hr, List.mem_singleton] at hj
  subst hj
  unfold wpOp
  simp only [hi, hw, if_true]
  refine .inl (h _ ?_)
  rintro a' w' ⟨hb, hg⟩
  exact ⟨fun _ => hb, hg (inv.set hm (of_decide_eq_true hin))⟩
theorem v_run2 {i k : Nat} {oi ok : Oper} {f : Nat} {l : Array Bool} {a : Act} {w : World} (hi : ops[i]? = some oi) (hk : ops[k]? = some ok) (hr : Region.ready .any ops l = [i, k]) (hin : decide (i < n ∧ k < n) = true)
    (hwi : Region.wanted oi (yielded ops a.tmps) = true) (hwk : Region.wanted ok (yielded ops a.tmps) = true)
    (h1 : ∀ K : Act → World → Prop, (∀ a' w', S w' ∧ wpV P ops n S Q f (l.setIfInBounds i true) a' w' → K a' w') → oi.wp P a w K Q)
    (h2 : ∀ K : Act → World → Prop, (∀ a' w', S w' ∧ wpV P ops n S Q f (l.setIfInBounds k true) a' w' → K a' w') → ok.wp P a w K Q) : wpV P ops n S Q (f + 1) l a w := by
  intro inv
  have hmi : i ∈ Region.ready .any ops l := by rw [hr]; simp
  have hmk : k ∈ Region.ready .any ops l := by rw [hr]; simp
  have hb := of_decide_eq_true hin
  refine ⟨fun e => (by rw [hr] at e; cases e), ?_⟩
  intro j hj
  rw [hr, List.mem_cons, List.mem_singleton] at hj
  rcases hj with rfl | rfl
  · unfold wpOp
    simp only [hi, hwi, if_true]
    refine .inl (h1 _ ?_)
    rintro a' w' ⟨hb', hg⟩
    exact ⟨fun _ => hb', hg (inv.set hmi hb.1)⟩
  · unfold wpOp
    simp only [hk, hwk, if_true]
    refine .inl (h2 _ ?_)
    rintro a' w' ⟨hb', hg⟩
    exact ⟨fun _ => hb', hg (inv.set hmk hb.2)⟩
theorem v_last {i : Nat} {oi : Oper} {f : Nat} {l : Array Bool} {a : Act} {w : World} (hi : ops[i]? = some oi) (hr : Region.ready .any ops l = [i]) (hin : decide (n ≤ i) = true) (he : Region.ready .any ops (l.setIfInBounds i true) = [])
    (hw : Region.wanted oi (yielded ops a.tmps) = true)
    (h : ∀ K : Act → World → Prop, (∀ a' w', Q .normal a' w' → K a' w') → oi.wp P a w K Q) : wpV P ops n S Q (f + 1) l a w := by
  intro inv
  refine ⟨fun e => (by rw [hr] at e; cases e), ?_⟩
  intro j hj
  rw [hr, List.mem_singleton] at hj
  subst hj
  unfold wpOp
  simp only [hi, hw, if_true]
  refine .inl (h _ ?_)
  intro a' w' hq
  refine ⟨fun hlt => absurd hlt (Nat.not_lt_of_le (of_decide_eq_true hin)), ?_⟩
  cases f with
  | zero => exact ⟨he, hq⟩
  | succ f => exact ⟨fun _ => hq, by rw [he]; simp⟩
end
end Go.Proofs.YtgmblgpfgdfnaaaDoor
namespace Go.Proofs.YtgmblgpfgdfnaaaDoor
open Go Go.RowKit
set_option linter.unusedVariables false
set_option linter.unusedSimpArgs false
set_option maxRecDepth 100000
/-- What comes back is a slot and an error's number. -/
structure OwnS (w : World) (base : Nat) (s : Sl) (vP vC : Value) : Prop where
  p : w.ownsRow base 26 3 vP s.ps.length (s.ps.flatMap vtC)
  c : w.ownsRow base 26 3 vC s.cs.length (s.cs.flatMap vtC)
  b : s.body.length ≤ maxLen
theorem OwnS.rds {w : World} {base : Nat} {s : Sl} {vP vC : Value} (h : OwnS w base s vP vC) : RdS w s vP vC := ⟨own_rdk vtC_len h.p, own_rdk vtC_len h.c, h.b⟩
theorem OwnS.kept {w w' : World} {base k : Nat} {s : Sl} {vP vC : Value} (h : OwnS w base s vP vC) (g : w.grownBy w' (some k)) (hk : k < base) : OwnS w' base s vP vC := by
  have f : ∀ v n xs, w.ownsRow base 26 3 v n xs → v.ownBlock = none ∨ v.ownBlock ≠ some k := fun v n xs ho => by
    cases hb : v.ownBlock with
    | none => exact .inl rfl
    | some q => refine .inr fun e => ?_; injection e with e; have := (ho.lt q hb).1; omega
  exact ⟨h.p.kept g (f _ _ _ h.p), h.c.kept g (f _ _ _ h.c), h.b⟩
theorem OwnS.below {w w' : World} {base : Nat} {s : Sl} {vP vC : Value} (h : OwnS w base s vP vC) (g : Below w.heap.size w w') : OwnS w' base s vP vC := ⟨own_rows_below h.p g, own_rows_below h.c g, h.b⟩
theorem OwnS.base {w : World} {base b : Nat} {s : Sl} {vP vC : Value} (h : OwnS w base s vP vC) (hb : b ≤ base) : OwnS w b s vP vC := ⟨own_base h.p hb, own_base h.c hb, h.b⟩
theorem owns0 (w : World) (base : Nat) : OwnS w base sl0 (.slice none 0 0) (.slice none 0 0) := ⟨World.ownsRow_nil _ _ _ _, World.ownsRow_nil _ _ _ _, Nat.zero_le _⟩
def GivesSl (w : World) (B : Option Nat) (s : Sl) (code : Nat) (e : Ending) (w' : World) : Prop := ∃ vP vC, e = .returned (.tuple #[sV s vP vC, .int .i64 (code : Int)]) ∧ OwnS w' w.heap.size s vP vC ∧ w.grownBy w' B
theorem gives_zero {w w' : World} {B : Option Nat} {s : Sl} {code n : Nat} {i : Int} (hs : s = sl0) (hc : code = n) (hi : i = (n : Int)) (g : w.grownBy w' B) : GivesSl w B s code (.returned (.tuple #[.agg #[.bool false, .int .i64 0, .int .i64 0, .string ⟨#[]⟩, .slice none 0 0, .slice none 0 0], .int .i64 i])) w' := by
  subst hs; subst hc; subst hi
  exact ⟨_, _, rfl, owns0 _ _, g⟩
theorem set3_old {w : World} {B i k : Nat} {u0 u1 u2 : Value} (h : k ≠ B) : (((w.setCell ⟨B, i, none⟩ u0).setCell ⟨B, i + 1, none⟩ u1).setCell ⟨B, i + 2, none⟩ u2).heap[k]? = w.heap[k]? := by rw [set_old h, set_old h, set_old h]
theorem vt_eq (a b c a' b' c' : Int) (w : World) : (binOp .eql 26 (.agg #[.int .i64 a, .int .i64 b, .int .i64 c]) (.agg #[.int .i64 a', .int .i64 b', .int .i64 c'])).run Tryd.prog w = .ok (.bool (decide (a = a') && (decide (b = b') && decide (c = c')))) w := by
  go_simp
  by_cases h1 : a = a'
  · by_cases h2 : b = b'
    · by_cases h3 : c = c'
      · simp [h1, h2, h3]
      · simp [h1, h2, h3]
    · simp [h1, h2]
  · simp [h1]
theorem vt_guard : Tryd.prog.eqGuardType Tryd.prog.depth 26 = false := by kernel_rfl
theorem vt_eq_op (op : Oper) (A : Act) (x y : Operand) (T' : TypeId) (a b c a' b' c' : Int) (r : Bool) (hr : r = (decide (a = a') && (decide (b = b') && decide (c = c')))) (ho : op.op = .binOp .eql 26 x y T') (hx : A.eval x = .agg #[.int .i64 a, .int .i64 b, .int .i64 c]) (hy : A.eval y = .agg #[.int .i64 a', .int .i64 b', .int .i64 c']) (w : World) : (execOp A.eval op).run Tryd.prog w = .ok (.value (.bool r)) w := by
  subst hr
  have h := vt_eq a b c a' b' c' w
  have g := vt_guard
  have e : (eqGuard .eql 26 x y (.agg #[.int .i64 a, .int .i64 b, .int .i64 c]) (.agg #[.int .i64 a', .int .i64 b', .int .i64 c'])).run Tryd.prog w = .ok () w := run_eqGuard_agg (hm := g) ..
  simp only [execOp, ho, hx, hy, Sem.run_bind, e, h, Result.andThen_ok, Sem.run_pure]
theorem grown_more {w w1 w2 : World} {r q : Option Nat} (h : w.grownBy w1 r) (g : w1.grownBy w2 q) (hq : ∀ k, q = some k → w.heap.size ≤ k) : w.grownBy w2 r :=
  ⟨g.os.trans h.os, g.tape.trans h.tape, g.output.trans h.output, Nat.le_trans h.size g.size, fun k hk hr => (g.block k (Nat.lt_of_lt_of_le hk h.size) (fun e => by have := hq k e.symm; omega)).trans (h.block k hk hr)⟩
theorem own_caps {w : World} {base : Nat} {e : TypeId} {s : Nat} {g n cap m : Nat} {xs : List Value} (h : w.ownsRow base e s (.slice (some ⟨g, 0, none⟩) n cap) m xs) : n ≤ cap ∧ cap ≤ 9223372036854775807 := by
  rcases h.2 with ⟨h1, _⟩ | ⟨g', cap', cur, h1, _, _, h2, h3, _⟩
  · cases h1
  · cases h1; unfold maxLen at h3; exact ⟨h2, by omega⟩
theorem idx_vt (g n cap p : Nat) (h : p < n) (W : World) : (Instr.indexAt 22 (.slice (some ⟨g, 0, none⟩) n cap) (.int .i64 (p : Int))).run Tryd.prog W = .ok (.pointer (some ⟨g, p * 3, none⟩)) W := by
  have hu := Tryd.underlying22
  have h1 : (p : Int) < (n : Int) := by omega
  go_simp
theorem grown_drew2 {w w' : World} {r : Option Nat} (h : w.grownBy w' r) : w.drew.grownBy w'.drew r := ⟨h.os, h.tape, h.output, h.size, h.block⟩
theorem grown_off {w1 w2 : World} {q : Option Nat} {k base : Nat} (g : w1.grownBy w2 q) (hk : k < base) (hq : ∀ j, q = some j → base ≤ j) (hl : k < w1.heap.size) : w2.heap[k]? = w1.heap[k]? :=
  g.block k hl (fun e => by have := hq k e.symm; omega)
theorem own_past {w : World} {base : Nat} {e : TypeId} {s : Nat} {v : Value} {n : Nat} {xs : List Value} (h : w.ownsRow base e s v n xs) : ∀ k, v.ownBlock = some k → base ≤ k := fun k hk => (h.lt k hk).1
theorem flat_set3 (x : Vt) : ∀ (l : List Vt) (p : Nat), (l.set p x).flatMap vtC = (((l.flatMap vtC).set (p * 3) (.int .i64 x.fr)).set (p * 3 + 1) (.int .i64 x.vw)).set (p * 3 + 2) (.int .i64 x.tm)
  | [], p => by simp
  | y :: r, 0 => by simp [vtC]
  | y :: r, p + 1 => by
    rw [List.set_cons_succ, List.flatMap_cons, List.flatMap_cons, flat_set3 x r p]
    rw [show (p + 1) * 3 = p * 3 + 3 by omega]
    simp [vtC]
/-- A list of the call's own with one vote in place of another. -/
theorem own_set3 {w : World} {base g n cap p : Nat} {l : List Vt} {x : Vt} (h : w.ownsRow base 26 3 (.slice (some ⟨g, 0, none⟩) n cap) n (l.flatMap vtC)) :
    (((w.setCell ⟨g, p * 3, none⟩ (.int .i64 x.fr)).setCell ⟨g, p * 3 + 1, none⟩ (.int .i64 x.vw)).setCell ⟨g, p * 3 + 2, none⟩ (.int .i64 x.tm)).ownsRow base 26 3 (.slice (some ⟨g, 0, none⟩) n cap) n ((l.set p x).flatMap vtC) := by
  rw [flat_set3]
  exact ((((h.stored _ _).1).stored _ _).1.stored _ _).1
end Go.Proofs.YtgmblgpfgdfnaaaDoor
