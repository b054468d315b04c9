/- A region whose order is open, inside a fence and inside a round: what walks it outside walks it there. It speaks of no program in particular. -/
/- A region whose order is open, walked once under a condition on the world that is chosen for it, its last operation whatever it is (a store, say): what only reads under the condition is taken first. -/
/- A region whose order is open, its last operation a store, inside a fence and inside a round; an append in such a region. It speaks of no program in particular. -/
/- Whole rows loaded and stored inside a fence that lets all through. It speaks of no program in particular. -/
import Derived.Test.YtbdfcgffkonbiaaGreatDoorQSSC9
import Derived.OrdersIn
import Derived.RangeFuncIn
import Derived.CallsIn
import Derived.AtR
import Derived.Test.YtbdfcgffkonbiaaGreatDoorQSSC22
import Derived.Maps.AppendAt
import Derived.Test.YtbdfcgffkonbiaaGreatDoorQSSC5
import Derived.Laws.Rows
import Derived.Laws.Tables
import Derived.TacticsIn
import Derived.Deep.MidRow
namespace Go.Proofs.YtbdfcgffkonbiaaGreatDoor
open Go.RowKit
set_option linter.unusedVariables false
section
variable {P : Program} {ops : Array Oper} {Q : Exit → Act → World → Prop} {md : Region.Mode} {n : Nat} {ro : Option Nat}
/-- The fence that lets all through, in a round or in none. -/
def wideR (ro : Option Nat) : Fence := { Fence.wide with round := ro }
theorem callsIn_wideR {f : FuncId} {args : Array Value} {w : World} {R : Ending → World → Prop} (h : Calls P f args w R) : CallsIn (wideR ro) n P f args w R := (callsIn_wide (n := n)).2 h
theorem rowsIn_wideR {row : String} {args : Array Value} {w : World} {R : Value → World → Prop} (h : Rows P row args w R) : RowsIn (wideR ro) n P row args w R := by
  intro c cs _
  obtain ⟨v, w', r, s⟩ := h c cs
  exact ⟨v, w', r, stepsIn_wide.2 s⟩
def noDefer (o : Oper) : Bool := match o.op with
  | .defer _ => false
  | _ => true
theorem noDefer_ne {o : Oper} (h : noDefer o = true) : ∀ c, o.op ≠ .defer c := by
  intro c e
  unfold noDefer at h
  rw [e] at h
  cases h
theorem wpIn_of_wp {o : Oper} {a : Act} {w : World} {K : Act → World → Prop} (hnd : noDefer o = true) (h : o.wp P a w K Q) : o.wpIn (wideR ro) n P a w K Q := by
  refine ⟨fun _ _ => trivial, ?_⟩
  rw [Oper.semAt_eq _ _ _ (noDefer_ne hnd)]
  unfold Oper.wp at h
  generalize (execOp a.eval o).run P w = r at h
  have hd : (wideR ro).depth.isSome = true → 1 ≤ n := fun e => absurd e (by simp [wideR, Fence.wide])
  match r, h with
  | .ok (.value v) w', h => exact h
  | .ok .skip w', h => exact h
  | .ok (.enter f args) w', h => exact ⟨hd, callsIn_wideR h⟩
  | .ok (.row row args) w', h => exact ⟨hd, rowsIn_wideR h⟩
  | .ok (.defer d) w', h => exact h
  | .halt (.panic v) w', h => exact h
theorem wpAnyIn_of_any (hno : ¬ LetsOut Q) (hnd : ops.all noDefer = true) : ∀ (fuel : Nat) (listed : Array Bool) (a : Act) (w : World), wpAny P md ops Q fuel listed a w → wpAnyIn (wideR ro) n P md ops Q fuel listed a w
  | 0, _, _, _, h => h
  | fuel + 1, listed, a, w, h => by
    refine ⟨h.1, fun i hi => ?_⟩
    have h2 := h.2 i hi
    unfold wpOp at h2
    unfold wpOpIn
    cases ho : ops[i]? with
    | none => rw [ho] at h2; exact wpAnyIn_of_any hno hnd fuel _ _ _ h2
    | some o =>
      rw [ho] at h2
      simp only at h2 ⊢
      split
      · rename_i hw
        rw [if_pos hw] at h2
        rcases h2 with h2 | h2
        · refine Oper.wpIn_mono (fun a w h => wpAnyIn_of_any hno hnd fuel _ a w h) (wpIn_of_wp ?_ h2)
          obtain ⟨hlt, e⟩ := Array.getElem?_eq_some_iff.1 ho
          rw [← e]
          exact (Array.all_eq_true.1 hnd) i hlt
        · exact absurd h2.2 hno
      · rename_i hw
        rw [if_neg hw] at h2
        exact ⟨fun _ _ => trivial, wpAnyIn_of_any hno hnd fuel _ _ _ h2⟩
theorem i_start {id : Nat} {a : Act} {w : World} (hno : ¬ LetsOut Q) (hnd : ops.all noDefer = true) (hm : P.follows .mixedOrders = true) (h : wpG P ops Q ops.size (Array.replicate ops.size false) a w.drew) :
    (Code.region id ops true).wpIn (wideR ro) n P Q a w :=
  wpIn_region_any hm (wpAnyIn_of_any hno hnd _ _ _ _ (wpAny_of_held _ _ _ _ h))
end
end Go.Proofs.YtbdfcgffkonbiaaGreatDoor
namespace Go.Proofs.YtbdfcgffkonbiaaGreatDoor
open Go.RowKit
set_option linter.unusedVariables false
section
variable {P : Program} {ops : Array Oper} {Q : Exit → Act → World → Prop} {S : World → Prop} {n : Nat}
def wpV (P : Program) (ops : Array Oper) (n : Nat) (S : World → Prop) (Q : Exit → Act → World → Prop) (f : Nat) (l : Array Bool) (a : Act) (w : World) : Prop :=
  HeadInv .any ops n l → orders P .any ops n Q S f l a w
theorem v_start {id : Nat} {a : Act} {w : World} (n : Nat) (S : World → Prop) (hm : P.follows .mixedOrders = true) (h : wpV P ops n S Q ops.size (Array.replicate ops.size false) a w.drew) : (Code.region id ops true).wp P Q a w := by
  refine wp_region_any hm (orders_any (n := n) (S := S) _ _ _ _ (h ⟨by simp, ?_, ?_⟩))
  · intro j oj _ hl
    rw [getD_replicate_false] at hl
    cases hl
  · intro t ht hlt
    simp [hlt]
theorem v_take {i : Nat} {oi : Oper} {d : Option Tmp} {v : Value} {f : Nat} {l : Array Bool} {a : Act} {w : World} (hi : ops[i]? = some oi) (hd : oi.dst = d) (hst : statT ops n l i = true)
    (hQ : ∀ c a w, Q (.panic c) (a.put d v) w → Q (.panic c) a w) (hw : Region.wanted oi (yielded ops a.tmps) = true) (hS : S w)
    (hy : ∀ w', S w' → (execOp a.eval oi).run P w' = .ok (.value v) w')
    (h : wpV P ops n S Q f (l.setIfInBounds i true) (a.put d v) w) : wpV P ops n S Q (f + 1) l a w := by
  subst hd
  intro inv
  unfold statT at hst
  simp only [Bool.and_eq_true, decide_eq_true_eq] at hst
  obtain ⟨⟨⟨⟨⟨⟨h1, h2⟩, h3⟩, h4⟩, h5⟩, h6⟩, h7⟩ := hst
  have hr : i ∈ Region.ready .any ops l := by simpa using h3
  exact orders_first hi (Region.noSelect_spec h1) hQ h4 h5 h6 h7 f l a w inv (Region.free_spec hi h2) hr (.inl ⟨hw, hy⟩) hS (h (inv.set hr h7))
theorem v_run {i : Nat} {oi : Oper} {f : Nat} {l : Array Bool} {a : Act} {w : World} (hi : ops[i]? = some oi) (hr : Region.ready .any ops l = [i]) (hin : decide (i < n) = true)
    (hw : Region.wanted oi (yielded ops a.tmps) = true)
    (h : ∀ K : Act → World → Prop, (∀ a' w', S w' ∧ wpV P ops n S Q f (l.setIfInBounds i true) a' w' → K a' w') → oi.wp P a w K Q) : wpV P ops n S Q (f + 1) l a w := by
  intro inv
  have hm : i ∈ Region.ready .any ops l := by rw [hr]; simp
  refine ⟨fun e => (by rw [hr] at e; cases e), ?_⟩
  intro j hj
  rw [hr, List.mem_singleton] at hj
  subst hj
  unfold wpOp
  simp only [hi, hw, if_true]
  refine .inl (h _ ?_)
  rintro a' w' ⟨hb, hg⟩
  exact ⟨fun _ => hb, hg (inv.set hm (of_decide_eq_true hin))⟩
theorem v_run2 {i k : Nat} {oi ok : Oper} {f : Nat} {l : Array Bool} {a : Act} {w : World} (hi : ops[i]? = some oi) (hk : ops[k]? = some ok) (hr : Region.ready .any ops l = [i, k]) (hin : decide (i < n ∧ k < n) = true)
    (hwi : Region.wanted oi (yielded ops a.tmps) = true) (hwk : Region.wanted ok (yielded ops a.tmps) = true)
    (h1 : ∀ K : Act → World → Prop, (∀ a' w', S w' ∧ wpV P ops n S Q f (l.setIfInBounds i true) a' w' → K a' w') → oi.wp P a w K Q)
    (h2 : ∀ K : Act → World → Prop, (∀ a' w', S w' ∧ wpV P ops n S Q f (l.setIfInBounds k true) a' w' → K a' w') → ok.wp P a w K Q) : wpV P ops n S Q (f + 1) l a w := by
  intro inv
  have hmi : i ∈ Region.ready .any ops l := by rw [hr]; simp
  have hmk : k ∈ Region.ready .any ops l := by rw [hr]; simp
  have hb := of_decide_eq_true hin
  refine ⟨fun e => (by rw [hr] at e; cases e), ?_⟩
  intro j hj
  rw [hr, List.mem_cons, List.mem_singleton] at hj
  rcases hj with rfl | rfl
  · unfold wpOp
    simp only [hi, hwi, if_true]
    refine .inl (h1 _ ?_)
    rintro a' w' ⟨hb', hg⟩
    exact ⟨fun _ => hb', hg (inv.set hmi hb.1)⟩
  · unfold wpOp
    simp only [hk, hwk, if_true]
    refine .inl (h2 _ ?_)
    rintro a' w' ⟨hb', hg⟩
    exact ⟨fun _ => hb', hg (inv.set hmk hb.2)⟩
theorem v_last {i : Nat} {oi : Oper} {f : Nat} {l : Array Bool} {a : Act} {w : World} (hi : ops[i]? = some oi) (hr : Region.ready .any ops l = [i]) (hin : decide (n ≤ i) = true) (he : Region.ready .any ops (l.setIfInBounds i true) = [])
    (hw : Region.wanted oi (yielded ops a.tmps) = true)
    (h : ∀ K : Act → World → Prop, (∀ a' w', Q .normal a' w' → K a' w') → oi.wp P a w K Q) : wpV P ops n S Q (f + 1) l a w := by
  intro inv
  refine ⟨fun e => (by rw [hr] at e; cases e), ?_⟩
  intro j hj
  rw [hr, List.mem_singleton] at hj
  subst hj
  unfold wpOp
  simp only [hi, hw, if_true]
  refine .inl (h _ ?_)
  intro a' w' hq
  refine ⟨fun hlt => absurd hlt (Nat.not_lt_of_le (of_decide_eq_true hin)), ?_⟩
  cases f with
  | zero => exact ⟨he, hq⟩
  | succ f => exact ⟨fun _ => hq, by rw [he]; simp⟩
end
end Go.Proofs.YtbdfcgffkonbiaaGreatDoor
namespace Go.Proofs.YtbdfcgffkonbiaaGreatDoor
open Go.RowKit
set_option linter.unusedVariables false
section
variable {P : Program} {ops : Array Oper} {Q : Exit → Act → World → Prop} {n : Nat} {ro : Option Nat}
theorem j_start {id m : Nat} {a : Act} {w : World} (n : Nat) (S : World → Prop) (hno : ¬ LetsOut Q) (hnd : ops.all noDefer = true) (hm : P.follows .mixedOrders = true) (h : wpV P ops n S Q ops.size (Array.replicate ops.size false) a w.drew) :
    (Code.region id ops true).wpIn (wideR ro) m P Q a w := by
  refine wpIn_region_any hm (wpAnyIn_of_any hno hnd _ _ _ _ (orders_any (n := n) (S := S) _ _ _ _ (h ⟨by simp, ?_, ?_⟩)))
  · intro j oj _ hl
    rw [getD_replicate_false] at hl
    cases hl
  · intro t ht hlt
    simp [hlt]
/-- An append, alone. -/
theorem op_append {o : Oper} {a : Act} {w : World} {K : Act → World → Prop} (s x : Operand) (t ty : TypeId) (hop : o.op = Op.call { callee := Callee.builtin Builtin.append, args := #[s, x], argTypes := #[t, t] }) (hty : o.type = ty)
    (v u v' : Value) (w' : World) (hs : a.eval s = v) (hx : a.eval x = u) (hrun : (Builtin.append_ #[t, t] ty #[v, u]).run P w = .ok v' w') (hK : K (a.put o.dst v') w') : o.wp P a w K Q := by
  subst hty
  unfold Oper.wp
  simp [execOp, hop, resolve, invoke, builtin, hs, hx, hrun, Result.andThen]
  exact hK
end
end Go.Proofs.YtbdfcgffkonbiaaGreatDoor
namespace Go.Proofs.YtbdfcgffkonbiaaGreatDoor
open Go Go.RowKit
set_option linter.unusedVariables false
section
variable {P : Program} {ops : Array Oper} {rest : List Oper} {o : Oper} {a : Act} {w : World} {Q : Exit → Act → World → Prop} {n : Nat} {ro : Option Nat}
theorem wpListIn_load_rowR (hgd : o.guard = none) (ty : TypeId) (x : Operand) (ho : o.op = .load ty x)
    (g : Nat) (hx : a.eval x = .pointer (some ⟨g, 0, none⟩)) (t : TypeId) (cs : Array Value) (fr : Nat × Nat) (d : TypeDesc) (hg : w.heap[g]? = some (.cells cs t fr))
    (hu : P.underlying ty = some d) (hd : (match d with | .struct _ | .array _ _ => true | _ => false) = true) (hi : (P.info? ty).map (·.size) = some cs.size)
    (h : wpListIn (wideR ro) n P ops Q rest (a.put o.dst (.agg cs)) w) : wpListIn (wideR ro) n P ops Q (o :: rest) a w :=
  wpListIn_plain hgd fun _ hK => wpIn_of_wp (by unfold noDefer; rw [ho]) (wp_load_row ty x ho g hx t cs fr d hg hu hd hi (hK _ _ h))
theorem wpListIn_store_rowR (hgd : o.guard = none) (ty : TypeId) (x y : Operand) (ho : o.op = .store ty x y)
    (g : Nat) (cells : Array Value) (hx : a.eval x = .pointer (some ⟨g, 0, none⟩)) (hy : a.eval y = .agg cells)
    (t : TypeId) (old : Array Value) (hg : w.heap[g]? = some (.cells old t (0, 0))) (hi : (P.info? ty).map (·.size) = some cells.size)
    (hold : old.size = cells.size) (h1 : cells.all (·.oneCell') = true)
    (h : wpListIn (wideR ro) n P ops Q rest (a.put o.dst undef) (w.setRow g cells)) : wpListIn (wideR ro) n P ops Q (o :: rest) a w :=
  wpListIn_plain hgd fun _ hK => wpIn_of_wp (by unfold noDefer; rw [ho]) (wp_store_row ty x y ho g cells hx hy t old hg hi hold h1 (hK _ _ h))
theorem wpListIn_load_row (hgd : o.guard = none) (ty : TypeId) (x : Operand) (ho : o.op = .load ty x)
    (g : Nat) (hx : a.eval x = .pointer (some ⟨g, 0, none⟩)) (t : TypeId) (cs : Array Value) (fr : Nat × Nat) (d : TypeDesc) (hg : w.heap[g]? = some (.cells cs t fr))
    (hu : P.underlying ty = some d) (hd : (match d with | .struct _ | .array _ _ => true | _ => false) = true) (hi : (P.info? ty).map (·.size) = some cs.size)
    (h : wpListIn Fence.wide n P ops Q rest (a.put o.dst (.agg cs)) w) : wpListIn Fence.wide n P ops Q (o :: rest) a w :=
  wpListIn_load_rowR (ro := none) hgd ty x ho g hx t cs fr d hg hu hd hi h
theorem wpListIn_store_rowW (hgd : o.guard = none) (ty : TypeId) (x y : Operand) (ho : o.op = .store ty x y)
    (g : Nat) (cells : Array Value) (hx : a.eval x = .pointer (some ⟨g, 0, none⟩)) (hy : a.eval y = .agg cells)
    (t : TypeId) (old : Array Value) (hg : w.heap[g]? = some (.cells old t (0, 0))) (hi : (P.info? ty).map (·.size) = some cells.size)
    (hold : old.size = cells.size) (h1 : cells.all (·.oneCell') = true)
    (h : wpListIn Fence.wide n P ops Q rest (a.put o.dst undef) (w.setRow g cells)) : wpListIn Fence.wide n P ops Q (o :: rest) a w :=
  wpListIn_store_rowR (ro := none) hgd ty x y ho g cells hx hy t old hg hi hold h1 h
theorem wpListIn_store_rowL {l : Nat} (hgd : o.guard = none) (ty : TypeId) (x y : Operand) (ho : o.op = .store ty x y)
    (g : Nat) (cells : Array Value) (hx : a.eval x = .pointer (some ⟨g, 0, none⟩)) (hy : a.eval y = .agg cells)
    (t : TypeId) (old : Array Value) (hg : w.heap[g]? = some (.cells old t (0, 0))) (hi : (P.info? ty).map (·.size) = some cells.size)
    (hold : old.size = cells.size) (h1 : cells.all (·.oneCell') = true)
    (h : wpListIn (Fence.wide.inRound l) n P ops Q rest (a.put o.dst undef) (w.setRow g cells)) : wpListIn (Fence.wide.inRound l) n P ops Q (o :: rest) a w :=
  wpListIn_store_rowR (ro := some l) hgd ty x y ho g cells hx hy t old hg hi hold h1 h
theorem wpListIn_load_mid {op : Oper} (hgd : op.guard = none) (ty : TypeId) (x : Operand) (ho : op.op = .load ty x)
    (b o : Nat) (hx : a.eval x = .pointer (some ⟨b, o, none⟩)) (cs : List Value) (d : TypeDesc) (hc : w.rangeAt b o cs)
    (hu : P.underlying ty = some d) (hd : d.isRow = true) (hi : (P.info? ty).map (·.size) = some cs.length)
    (h : wpListIn Fence.wide n P ops Q rest (a.put op.dst (.agg cs.toArray)) w) : wpListIn Fence.wide n P ops Q (op :: rest) a w :=
  wpListIn_plain hgd fun _ hK => wpIn_of_wp (ro := none) (by unfold noDefer; rw [ho]) (wp_load_mid ty x ho b o hx cs d hc hu hd hi (hK _ _ h))
end
end Go.Proofs.YtbdfcgffkonbiaaGreatDoor
