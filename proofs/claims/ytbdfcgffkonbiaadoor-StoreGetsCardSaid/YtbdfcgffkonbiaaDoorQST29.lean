/- A region whose order is open, inside a fence and inside a round: what walks it outside walks it there. It speaks of no program in particular. -/
/- A region whose order is open, walked once under a condition on the world that is chosen for it, its last operation whatever it is (a store, say): what only reads under the condition is taken first. -/
/- A region whose order is open, its last operation a store, inside a fence and inside a round; an append in such a region. It speaks of no program in particular. -/
/- Whole rows loaded and stored inside a fence that lets all through. It speaks of no program in particular. -/
/- A range over a function whose iterator keeps cells of its own: the law of the loop. Tw says what the iterator itself does to the world between two rounds; Kp what a round keeps for it. -/
/- A range over a function whose iterator keeps cells of its own, and whose round's variable lies in memory. Written by wip/tools/gen31h.py. -/
/- Span: what the iterator of items does to the world, and what a round keeps for it. -/
import Derived.Test.YtbdfcgffkonbiaaDoorQST4
import Derived.OrdersIn
import Derived.RangeFuncIn
import Derived.CallsIn
import Derived.AtR
import Derived.Test.YtbdfcgffkonbiaaDoorQST21
import Derived.Maps.AppendAt
import Derived.Test.YtbdfcgffkonbiaaDoorQST2
import Derived.Laws.Rows
import Derived.Laws.Tables
import Derived.TacticsIn
import Derived.Deep.MidRow
import Derived.RangeFuncWrites
import Derived.RangeFuncNested
import Derived.RangeFuncBound
import Derived.RangeFuncCalls
import Derived.RangeFuncLeaves
import Derived.RangeFuncBox
import Derived.Shelf.Abstract
import Derived.Shelf.RegionOpen
import Derived.WalkKit
import Derived.OwnWalkIn
import Derived.TacticsInMore
import Derived.LoopNIn
import Derived.LoopIn
import Derived.Test.YtbdfcgffkonbiaaDoorQST28
namespace Go.Proofs.YtbdfcgffkonbiaaDoor
open Go.RowKit
set_option linter.unusedVariables false
section
variable {P : Program} {ops : Array Oper} {Q : Exit → Act → World → Prop} {md : Region.Mode} {n : Nat} {ro : Option Nat}
/-- The fence that lets all through, in a round or in none. -/
def wideR (ro : Option Nat) : Fence := { Fence.wide with round := ro }
theorem callsIn_wideR {f : FuncId} {args : Array Value} {w : World} {R : Ending → World → Prop} (h : Calls P f args w R) : CallsIn (wideR ro) n P f args w R := (callsIn_wide (n := n)).2 h
theorem rowsIn_wideR {row : String} {args : Array Value} {w : World} {R : Value → World → Prop} (h : Rows P row args w R) : RowsIn (wideR ro) n P row args w R := by
  intro c cs _
  obtain ⟨v, w', r, s⟩ := h c cs
  exact ⟨v, w', r, stepsIn_wide.2 s⟩
def noDefer (o : Oper) : Bool := match o.op with
  | .defer _ => false
  | _ => true
theorem noDefer_ne {o : Oper} (h : noDefer o = true) : ∀ c, o.op ≠ .defer c := by
  intro c e
  unfold noDefer at h
  rw [e] at h
  cases h
theorem wpIn_of_wp {o : Oper} {a : Act} {w : World} {K : Act → World → Prop} (hnd : noDefer o = true) (h : o.wp P a w K Q) : o.wpIn (wideR ro) n P a w K Q := by
  refine ⟨fun _ _ => trivial, ?_⟩
  rw [Oper.semAt_eq _ _ _ (noDefer_ne hnd)]
  unfold Oper.wp at h
  generalize (execOp a.eval o).run P w = r at h
  have hd : (wideR ro).depth.isSome = true → 1 ≤ n := fun e => absurd e (by simp [wideR, Fence.wide])
  match r, h with
  | .ok (.value v) w', h => exact h
  | .ok .skip w', h => exact h
  | .ok (.enter f args) w', h => exact ⟨hd, callsIn_wideR h⟩
  | .ok (.row row args) w', h => exact ⟨hd, rowsIn_wideR h⟩
  | .ok (.defer d) w', h => exact h
  | .halt (.panic v) w', h => exact h
theorem wpAnyIn_of_any (hno : ¬ LetsOut Q) (hnd : ops.all noDefer = true) : ∀ (fuel : Nat) (listed : Array Bool) (a : Act) (w : World), wpAny P md ops Q fuel listed a w → wpAnyIn (wideR ro) n P md ops Q fuel listed a w
  | 0, _, _, _, h => h
  | fuel + 1, listed, a, w, h => by
    refine ⟨h.1, fun i hi => ?_⟩
    have h2 := h.2 i hi
    unfold wpOp at h2
    unfold wpOpIn
    cases ho : ops[i]? with
    | none => rw [ho] at h2; exact wpAnyIn_of_any hno hnd fuel _ _ _ h2
    | some o =>
      rw [ho] at h2
      simp only at h2 ⊢
      split
      · rename_i hw
        rw [if_pos hw] at h2
        rcases h2 with h2 | h2
        · refine Oper.wpIn_mono (fun a w h => wpAnyIn_of_any hno hnd fuel _ a w h) (wpIn_of_wp ?_ h2)
          obtain ⟨hlt, e⟩ := Array.getElem?_eq_some_iff.1 ho
          rw [← e]
          exact (Array.all_eq_true.1 hnd) i hlt
        · exact absurd h2.2 hno
      · rename_i hw
        rw [if_neg hw] at h2
        exact ⟨fun _ _ => trivial, wpAnyIn_of_any hno hnd fuel _ _ _ h2⟩
end
end Go.Proofs.YtbdfcgffkonbiaaDoor
namespace Go.Proofs.YtbdfcgffkonbiaaDoor
open Go.RowKit
set_option linter.unusedVariables false
section
variable {P : Program} {ops : Array Oper} {Q : Exit → Act → World → Prop} {S : World → Prop} {n : Nat}
def wpV (P : Program) (ops : Array Oper) (n : Nat) (S : World → Prop) (Q : Exit → Act → World → Prop) (f : Nat) (l : Array Bool) (a : Act) (w : World) : Prop :=
  HeadInv .any ops n l → orders P .any ops n Q S f l a w
theorem v_start {id : Nat} {a : Act} {w : World} (n : Nat) (S : World → Prop) (hm : P.follows .mixedOrders = true) (h : wpV P ops n S Q ops.size (Array.replicate ops.size false) a w.drew) : (Code.region id ops true).wp P Q a w := by
  refine wp_region_any hm (orders_any (n := n) (S := S) _ _ _ _ (h ⟨by simp, ?_, ?_⟩))
  · intro j oj _ hl
    rw [getD_replicate_false] at hl
    cases hl
  · intro t ht hlt
    simp [hlt]
theorem v_take {i : Nat} {oi : Oper} {d : Option Tmp} {v : Value} {f : Nat} {l : Array Bool} {a : Act} {w : World} (hi : ops[i]? = some oi) (hd : oi.dst = d) (hst : statT ops n l i = true)
    (hQ : ∀ c a w, Q (.panic c) (a.put d v) w → Q (.panic c) a w) (hw : Region.wanted oi (yielded ops a.tmps) = true) (hS : S w)
    (hy : ∀ w', S w' → (execOp a.eval oi).run P w' = .ok (.value v) w')
    (h : wpV P ops n S Q f (l.setIfInBounds i true) (a.put d v) w) : wpV P ops n S Q (f + 1) l a w := by
  subst hd
  intro inv
  unfold statT at hst
  simp only [Bool.and_eq_true, decide_eq_true_eq] at hst
  obtain ⟨⟨⟨⟨⟨⟨h1, h2⟩, h3⟩, h4⟩, h5⟩, h6⟩, h7⟩ := hst
  have hr : i ∈ Region.ready .any ops l := by simpa using h3
  exact orders_first hi (Region.noSelect_spec h1) hQ h4 h5 h6 h7 f l a w inv (Region.free_spec hi h2) hr (.inl ⟨hw, hy⟩) hS (h (inv.set hr h7))
theorem v_run {i : Nat} {oi : Oper} {f : Nat} {l : Array Bool} {a : Act} {w : World} (hi : ops[i]? = some oi) (hr : Region.ready .any ops l = [i]) (hin : decide (i < n) = true)
    (hw : Region.wanted oi (yielded ops a.tmps) = true)
    (h : ∀ K : Act → World → Prop, (∀ a' w', S w' ∧ wpV P ops n S Q f (l.setIfInBounds i true) a' w' → K a' w') → oi.wp P a w K Q) : wpV P ops n S Q (f + 1) l a w := by
  intro inv
  have hm : i ∈ Region.ready .any ops l := by rw [hr]; simp
  refine ⟨fun e => (by rw [hr] at e; cases e), ?_⟩
  intro j hj
  rw [hr, List.mem_singleton] at hj
  subst hj
  unfold wpOp
  simp only [hi, hw, if_true]
  refine .inl (h _ ?_)
  rintro a' w' ⟨hb, hg⟩
  exact ⟨fun _ => hb, hg (inv.set hm (of_decide_eq_true hin))⟩
theorem v_last {i : Nat} {oi : Oper} {f : Nat} {l : Array Bool} {a : Act} {w : World} (hi : ops[i]? = some oi) (hr : Region.ready .any ops l = [i]) (hin : decide (n ≤ i) = true) (he : Region.ready .any ops (l.setIfInBounds i true) = [])
    (hw : Region.wanted oi (yielded ops a.tmps) = true)
    (h : ∀ K : Act → World → Prop, (∀ a' w', Q .normal a' w' → K a' w') → oi.wp P a w K Q) : wpV P ops n S Q (f + 1) l a w := by
  intro inv
  refine ⟨fun e => (by rw [hr] at e; cases e), ?_⟩
  intro j hj
  rw [hr, List.mem_singleton] at hj
  subst hj
  unfold wpOp
  simp only [hi, hw, if_true]
  refine .inl (h _ ?_)
  intro a' w' hq
  refine ⟨fun hlt => absurd hlt (Nat.not_lt_of_le (of_decide_eq_true hin)), ?_⟩
  cases f with
  | zero => exact ⟨he, hq⟩
  | succ f => exact ⟨fun _ => hq, by rw [he]; simp⟩
end
end Go.Proofs.YtbdfcgffkonbiaaDoor
namespace Go.Proofs.YtbdfcgffkonbiaaDoor
open Go.RowKit
set_option linter.unusedVariables false
section
variable {P : Program} {ops : Array Oper} {Q : Exit → Act → World → Prop} {n : Nat} {ro : Option Nat}
theorem j_start {id m : Nat} {a : Act} {w : World} (n : Nat) (S : World → Prop) (hno : ¬ LetsOut Q) (hnd : ops.all noDefer = true) (hm : P.follows .mixedOrders = true) (h : wpV P ops n S Q ops.size (Array.replicate ops.size false) a w.drew) :
    (Code.region id ops true).wpIn (wideR ro) m P Q a w := by
  refine wpIn_region_any hm (wpAnyIn_of_any hno hnd _ _ _ _ (orders_any (n := n) (S := S) _ _ _ _ (h ⟨by simp, ?_, ?_⟩)))
  · intro j oj _ hl
    rw [getD_replicate_false] at hl
    cases hl
  · intro t ht hlt
    simp [hlt]
/-- An append, alone. -/
theorem op_append {o : Oper} {a : Act} {w : World} {K : Act → World → Prop} (s x : Operand) (t ty : TypeId) (hop : o.op = Op.call { callee := Callee.builtin Builtin.append, args := #[s, x], argTypes := #[t, t] }) (hty : o.type = ty)
    (v u v' : Value) (w' : World) (hs : a.eval s = v) (hx : a.eval x = u) (hrun : (Builtin.append_ #[t, t] ty #[v, u]).run P w = .ok v' w') (hK : K (a.put o.dst v') w') : o.wp P a w K Q := by
  subst hty
  unfold Oper.wp
  simp [execOp, hop, resolve, invoke, builtin, hs, hx, hrun, Result.andThen]
  exact hK
end
end Go.Proofs.YtbdfcgffkonbiaaDoor
namespace Go.Proofs.YtbdfcgffkonbiaaDoor
open Go Go.RowKit
set_option linter.unusedVariables false
section
variable {P : Program} {ops : Array Oper} {rest : List Oper} {o : Oper} {a : Act} {w : World} {Q : Exit → Act → World → Prop} {n : Nat} {ro : Option Nat}
theorem wpListIn_load_rowR (hgd : o.guard = none) (ty : TypeId) (x : Operand) (ho : o.op = .load ty x)
    (g : Nat) (hx : a.eval x = .pointer (some ⟨g, 0, none⟩)) (t : TypeId) (cs : Array Value) (fr : Nat × Nat) (d : TypeDesc) (hg : w.heap[g]? = some (.cells cs t fr))
    (hu : P.underlying ty = some d) (hd : (match d with | .struct _ | .array _ _ => true | _ => false) = true) (hi : (P.info? ty).map (·.size) = some cs.size)
    (h : wpListIn (wideR ro) n P ops Q rest (a.put o.dst (.agg cs)) w) : wpListIn (wideR ro) n P ops Q (o :: rest) a w :=
  wpListIn_plain hgd fun _ hK => wpIn_of_wp (by unfold noDefer; rw [ho]) (wp_load_row ty x ho g hx t cs fr d hg hu hd hi (hK _ _ h))
theorem wpListIn_load_row (hgd : o.guard = none) (ty : TypeId) (x : Operand) (ho : o.op = .load ty x)
    (g : Nat) (hx : a.eval x = .pointer (some ⟨g, 0, none⟩)) (t : TypeId) (cs : Array Value) (fr : Nat × Nat) (d : TypeDesc) (hg : w.heap[g]? = some (.cells cs t fr))
    (hu : P.underlying ty = some d) (hd : (match d with | .struct _ | .array _ _ => true | _ => false) = true) (hi : (P.info? ty).map (·.size) = some cs.size)
    (h : wpListIn Fence.wide n P ops Q rest (a.put o.dst (.agg cs)) w) : wpListIn Fence.wide n P ops Q (o :: rest) a w :=
  wpListIn_load_rowR (ro := none) hgd ty x ho g hx t cs fr d hg hu hd hi h
theorem wpListIn_load_mid {op : Oper} (hgd : op.guard = none) (ty : TypeId) (x : Operand) (ho : op.op = .load ty x)
    (b o : Nat) (hx : a.eval x = .pointer (some ⟨b, o, none⟩)) (cs : List Value) (d : TypeDesc) (hc : w.rangeAt b o cs)
    (hu : P.underlying ty = some d) (hd : d.isRow = true) (hi : (P.info? ty).map (·.size) = some cs.length)
    (h : wpListIn Fence.wide n P ops Q rest (a.put op.dst (.agg cs.toArray)) w) : wpListIn Fence.wide n P ops Q (op :: rest) a w :=
  wpListIn_plain hgd fun _ hK => wpIn_of_wp (ro := none) (by unfold noDefer; rw [ho]) (wp_load_mid ty x ho b o hx cs d hc hu hd hi (hK _ _ h))
end
end Go.Proofs.YtbdfcgffkonbiaaDoor
namespace Go.Proofs.YtbdfcgffkonbiaaDoor
open Go Go.RowKit
set_option linter.unusedVariables false
/-- What is asked behind a round's body. -/
def roundEnd {α : Type} (B : Nat) (Kp : World → World → Prop) (I : List α → World → Prop) (Ix : Code → List α → World → Prop) (xs : List α) (W : World) (e : Exit) (_ : Act) (W' : World) : Prop :=
  match e with
  | .normal => KeepsFrom B W W' ∧ Kp W W' ∧ I xs W'
  | .ret => KeepsFrom B W W' ∧ Ix .ret xs W'
  | .exit i => KeepsFrom B W W' ∧ Ix (.exit i) xs W'
  | .goto t => KeepsFrom B W W' ∧ Ix (.goto t) xs W'
  | _ => False
/-- The iterator's contract: whatever J, kept by what the iterator does, a round turns from one list to the next. -/
def Gives {α : Type} (F : Fence) (n : Nat) (P : Program) (gf : Nat) (lb : Array Value) (encs : α → Array Value) (Tw Kp : World → World → Prop) (S Sp : List α → Prop) (N : Nat) (w : World) : Prop :=
  ∀ (l : Nat) (J Jx : List α → World → Prop) (W : World), Below w.heap.size w W → (∀ s A B, J s A → Tw A B → J s B) → (∀ s A B, Jx s A → Tw A B → Jx s B) →
    (∀ pre x W1, J pre W1 → pre.length < N → YieldAt F (n - 1) P l (encs x) W1 fun e W' => (e = .returned (.bool true) ∧ J (pre ++ [x]) W' ∧ Kp W1 W') ∨ (e = .returned (.bool false) ∧ Jx (pre ++ [x]) W')) →
    J [] W → CallsIn F n P gf (#[.func (.yield l) #[] #[]] ++ lb) W fun e W' => (∃ v, e = .returned v) ∧ ((∃ xs, S xs ∧ J xs W') ∨ ∃ pre, Sp pre ∧ Jx pre W')
section
variable {α : Type} {F : Fence} {n : Nat} {P : Program}
end
end Go.Proofs.YtbdfcgffkonbiaaDoor
namespace Go.Proofs.YtbdfcgffkonbiaaDoor
open Go Go.RowKit
set_option linter.unusedVariables false
section
variable {α : Type} {F : Fence} {n : Nat} {P : Program}
theorem range_lawM {g : Operand} {ps : Array Tmp} {assign body : Code} {Q : Exit → Act → World → Prop} {a : Act} {w : World}
    (hro : F.round = none) (h1 : 1 ≤ n) {gf : Nat} {lb : Array Value} (hg : a.eval g = .func (.func gf) #[] lb) (hFg : F.fn gf) (eg : ∀ args w, (callFunc gf args).run P w = .ok (.enter gf args) w)
    {encs : α → Array Value} (hps : ∀ x, (encs x).size = ps.size) {Tw Kp : World → World → Prop} {S Sp : List α → Prop} {N : Nat} (hseq : Gives F (n - 1) P gf lb encs Tw Kp S Sp N w)
    (hTw : ∀ A B, Tw A B → KeepsFrom w.heap.size A B) (hKt : ∀ {A B C : World}, Kp A B → Kp B C → Kp A C)
    (hKb : ∀ (W : World) (l : Nat) (o o' : Obj), w.heap.size ≤ l → W.heap[l]? = some o → o.isCells = false → o.isWalk = false → Kp W (W.putObj l o'))
    (I : List α → World → Prop) (Ix : Code → List α → World → Prop) (hI : OwnFrom w.heap.size I) (hIx : ∀ c, OwnFrom w.heap.size (Ix c))
    (hIT : ∀ s A B, I s A → Tw A B → I s B) (hIxT : ∀ c s A B, Ix c s A → Tw A B → Ix c s B) (h0 : I [] w) (a₁ : α → World → Act) (w₁ : α → World → World) (hw1 : ∀ x W, Below W.heap.size W (w₁ x W)) (hKw : ∀ x W, Kp W (w₁ x W)) (hIg : ∀ s A B, I s A → Below A.heap.size A B → I s B)
    (hassign : ∀ (l : Nat) (x : α) (W : World) (K : Act → World → Prop), K (a₁ x W) (w₁ x W) →
      assign.wpIn (F.inRound l) (n - 1 - 1) P (Exit.then K (fun _ _ _ => False)) { tmps := (ps.zip (encs x)).foldl (fun t (p, v) => t.setIfInBounds p v) a.tmps, defers := [] } W)
    (hbody : ∀ (l : Nat) (pre : List α) (x : α) (W X : World), I pre X → pre.length < N → w.heap.size ≤ W.heap.size → X.heap[W.heap.size]? = (w₁ x W).heap[W.heap.size]? → body.wpIn (F.inRound l) (n - 1 - 1) P (roundEnd w.heap.size Kp I Ix (pre ++ [x]) X) (a₁ x W) X)
    (hdone : ∀ (D : Nat) (xs : List α) (W : World), w.heap.size ≤ D → S xs → I xs W → W.heap[D]? = some (.deferred (some [])) → Q .normal { a with defers := { target := .collected D, args := #[] } :: a.defers } W)
    (hstop : ∀ (D : Nat) (c : Code) (pre : List α) (W : World), w.heap.size ≤ D → Sp pre → Ix c pre W → W.heap[D]? = some (.deferred (some [])) → c.wpIn F n P Q { a with defers := { target := .collected D, args := #[] } :: a.defers } W) :
    (Code.rangeFunc g ps assign body).wpIn F n P Q a w := by
  refine wpIn_rangeFunc fun fn hfn => ?_
  rw [hro]
  -- the two blocks of the book-keeping: D for what rounds defer, D + 1 for the loop
  obtain ⟨D, hD⟩ : ∃ D, D = w.heap.size := ⟨_, rfl⟩
  obtain ⟨R, hR⟩ : ∃ R : LoopState → Option Code → Loop, R = fun s p => { state := s, pending := p, fn, tmps := a.tmps, params := ps, assign, body, defers := w.heap.size } := ⟨_, rfl⟩
  have book : ∃ V, V = (w.alloc (.deferred (some []))).alloc (.loop (R .ready none)) := ⟨_, rfl⟩
  obtain ⟨V, hV⟩ := book
  have bV : Below w.heap.size w V := by rw [hV]; exact ((Below.refl _ w).alloc (Nat.le_refl _) _).alloc (by simp) _
  have iV : I [] V := by rw [hV]; exact hI.alloc _ (hI.alloc _ h0)
  have lV : V.heap[D + 1]? = some (.loop (R .ready none)) := by
    have := World.alloc_heap_new (w.alloc (.deferred (some []))) (.loop (R .ready none))
    rw [World.size_alloc] at this
    rw [hV, hD]; exact this
  have dV : V.heap[D]? = some (.deferred (some [])) := by
    rw [hV, hD]; exact (Below.heap_alloc _ _ _ (by simp)).trans (World.alloc_heap_new w _)
  refine ⟨D + 1, [{ target := .collected D, args := #[] }], V, { target := .fn (.func gf) lb, args := #[.func (.yield (D + 1)) #[] #[]] }, V, gf, #[.func (.yield (D + 1)) #[] #[]] ++ lb, V, ?_, ?_, ?_, ?_, fun _ => h1, ?_⟩
  · rw [hV, hR, hD]; exact run_enterLoop_outer _ _ _ _ _
  · simp only [resolve, hg]; simp [go_sem]
  · intro f' hf'; simp [Target.leads] at hf'; subst hf'; exact hFg
  · simp [invoke, go_sem, eg]
  have keep : ∀ {A B : World} {k : Nat} {o : Obj}, Tw A B → D ≤ k → A.heap[k]? = some o → o.isCells = false → B.heap[k]? = some o := fun ht hk ho hc => (hTw _ _ ht).same _ _ (by omega) ho hc
  -- a round's end: the record turns, all else of the book-keeping stays
  have ends : ∀ (jump : Option Code) (X Y : World), X.heap[D + 1]? = some (.loop { R .ready none with state := .busy }) → X.heap[D]? = some (.deferred (some [])) → KeepsFrom w.heap.size X Y →
      Y.heap[D + 1]? = some (.loop { R .ready none with state := .busy }) ∧ (Instr.endRound (D + 1) jump).run P Y = .ok (.bool jump.isNone) (Y.putObj (D + 1) (.loop (R (if jump.isNone then .ready else .done) jump))) ∧
      (Y.putObj (D + 1) (.loop (R (if jump.isNone then .ready else .done) jump))).heap[D + 1]? = some (.loop (R (if jump.isNone then .ready else .done) jump)) ∧
      (Y.putObj (D + 1) (.loop (R (if jump.isNone then .ready else .done) jump))).heap[D]? = some (.deferred (some [])) := by
    intro jump X Y hl hd hk
    have l2 := hk.same _ _ (by omega) hl rfl
    have d2 := hk.same _ _ (by omega) hd rfl
    have r := run_endRound (P := P) jump l2
    rw [hR] at r l2 ⊢
    exact ⟨l2, r, World.putObj_heap_same (Array.getElem?_eq_some_iff.1 l2).1, (World.putObj_heap_other (by omega)).trans d2⟩
  refine (hseq (D + 1) (fun s W => I s W ∧ W.heap[D + 1]? = some (.loop (R .ready none)) ∧ W.heap[D]? = some (.deferred (some [])))
    (fun s W => ∃ c, Ix c s W ∧ W.heap[D + 1]? = some (.loop (R .done (some c))) ∧ W.heap[D]? = some (.deferred (some []))) V bV
    (fun s A B h t => ⟨hIT s A B h.1 t, keep t (by omega) h.2.1 rfl, keep t (Nat.le_refl _) h.2.2 rfl⟩)
    (fun s A B ⟨c, hc, hl, hd⟩ t => ⟨c, hIxT c s A B hc t, keep t (by omega) hl rfl, keep t (Nat.le_refl _) hd rfl⟩) ?_ ⟨iV, lV, dV⟩).mono ?_
  · rintro pre x W ⟨hi, hl, hd⟩ hlen
    have hy := run_yield (P := P) (args := encs x) hl (by rw [hR]; exact hps x)
    rw [hR] at hy
    have hsz0 : D + 1 < W.heap.size := (Array.getElem?_eq_some_iff.1 hl).1
    have bW := hw1 x W
    have hl1 : (w₁ x W).heap[D + 1]? = some (.loop (R .ready none)) := (bW.block _ hsz0).trans hl
    have hd1 : (w₁ x W).heap[D]? = some (.deferred (some [])) := (bW.block _ (by omega)).trans hd
    have hi1 : I pre (w₁ x W) := hIg _ _ _ hi bW
    obtain ⟨X, hX⟩ : ∃ X, X = (w₁ x W).putObj (D + 1) (.loop { R .ready none with state := .busy }) := ⟨_, rfl⟩
    have hsz : D + 1 < (w₁ x W).heap.size := Nat.lt_of_lt_of_le hsz0 bW.size
    have lX : X.heap[D + 1]? = some (.loop { R .ready none with state := .busy }) := by rw [hX]; exact World.putObj_heap_same hsz
    have dX : X.heap[D]? = some (.deferred (some [])) := by rw [hX]; exact (World.putObj_heap_other (by omega)).trans hd1
    have kX : Kp W X := by rw [hX]; exact hKt (hKw x W) (hKb _ _ _ _ (by omega) hl1 rfl rfl)
    have iX : I pre X := by rw [hX]; exact hI.putObj _ hi1 (by omega) hl1 rfl
    have nX : X.heap[W.heap.size]? = (w₁ x W).heap[W.heap.size]? := by rw [hX]; exact World.putObj_heap_other (by omega)
    refine ⟨fn, _, assign, body, hy, roundIn_of_wpIn hfn (hassign _ x W _ ⟨X, by rw [hX]; exact run_beginRound hl1 (by rw [hR]), ?_⟩)⟩
    refine wpIn_mono (hbody _ pre x W X iX hlen (by omega) nX) ?_
    intro e b Y hp
    cases e with
    | normal =>
      obtain ⟨k, kp, hi⟩ := hp
      obtain ⟨l2, r, l3, d3⟩ := ends none X Y lX dX k
      exact ⟨_, _, r, .inl ⟨rfl, ⟨hI.putObj _ hi (by omega) l2 rfl, l3, d3⟩, hKt (hKt kX kp) (hKb _ _ _ _ (by omega) l2 rfl rfl)⟩⟩
    | ret =>
      obtain ⟨l2, r, l3, d3⟩ := ends (some .ret) X Y lX dX hp.1
      exact ⟨_, _, r, .inr ⟨rfl, .ret, (hIx _).putObj _ hp.2 (by omega) l2 rfl, l3, d3⟩⟩
    | exit i =>
      obtain ⟨l2, r, l3, d3⟩ := ends (some (.exit i)) X Y lX dX hp.1
      exact ⟨_, _, r, .inr ⟨rfl, .exit i, (hIx _).putObj _ hp.2 (by omega) l2 rfl, l3, d3⟩⟩
    | goto t =>
      obtain ⟨l2, r, l3, d3⟩ := ends (some (.goto t)) X Y lX dX hp.1
      exact ⟨_, _, r, .inr ⟨rfl, .goto t, (hIx _).putObj _ hp.2 (by omega) l2 rfl, l3, d3⟩⟩
    | panic c => exact hp.elim
    | outgrown => exact hp.elim
  · rintro e W ⟨⟨v, rfl⟩, h⟩
    have shut : ∀ {s : LoopState} {p : Option Code}, s ≠ .busy → W.heap[D + 1]? = some (.loop (R s p)) → W.heap[D]? = some (.deferred (some [])) →
        (Instr.endLoop (D + 1)).run P W = .ok p (W.putObj (D + 1) (.loop { R s p with state := .exhausted })) ∧ (W.putObj (D + 1) (.loop { R s p with state := .exhausted })).heap[D]? = some (.deferred (some [])) := by
      intro s p hs hl hd
      have := run_endLoop (P := P) hl (by rw [hR]; simpa using hs)
      rw [hR] at this ⊢
      exact ⟨this, (World.putObj_heap_other (by omega)).trans hd⟩
    rcases h with ⟨xs, hS, hi, hl, hd⟩ | ⟨pre, hS, c, hi, hl, hd⟩
    · obtain ⟨r, d⟩ := shut (by simp) hl hd
      exact ⟨none, _, r, hdone D xs _ (by omega) hS (hI.putObj _ hi (by omega) hl rfl) d⟩
    · obtain ⟨r, d⟩ := shut (by simp) hl hd
      exact ⟨some c, _, r, hstop D c pre _ (by omega) hS ((hIx c).putObj _ hi (by omega) hl rfl) d⟩
end
end Go.Proofs.YtbdfcgffkonbiaaDoor
namespace Go.Proofs.YtbdfcgffkonbiaaDoor
open Go Go.RowKit
set_option linter.unusedVariables false
set_option linter.unusedSimpArgs false
/-- What the iterator does between two rounds: of the blocks from M on those of its own kind may turn. -/
structure Tw11 (M : Nat) (A B : World) : Prop where
  os : B.os = A.os
  tape : B.tape = A.tape
  output : B.output = A.output
  size : A.heap.size ≤ B.heap.size
  same : ∀ g o, A.heap[g]? = some o → (M ≤ g → ∀ cs fr, o ≠ .cells cs 24 fr) → B.heap[g]? = some o
theorem Tw11.of_below {M : Nat} {A B : World} (h : Below A.heap.size A B) : Tw11 M A B := ⟨h.os, h.tape, h.output, h.size, fun g o hg _ => (h.block g (lt_of_block hg)).trans hg⟩
theorem Tw11.trans {M : Nat} {A B C : World} (h : Tw11 M A B) (k : Tw11 M B C) : Tw11 M A C :=
  ⟨k.os.trans h.os, k.tape.trans h.tape, k.output.trans h.output, Nat.le_trans h.size k.size, fun g o hg ho => k.same g o (h.same g o hg ho) ho⟩
theorem Tw11.set {M : Nat} {A : World} {N : Nat} {cs : Array Value} (q : A.heap[N]? = some (.cells cs 24 (0, 0))) (hN : M ≤ N) (i : Nat) (v : Value) : Tw11 M A (A.setCell ⟨N, i, none⟩ v) := by
  have gg : A.grownBy (A.setCell ⟨N, i, none⟩ v) (some N) := grown_setB grown_reflB
  refine ⟨gg.os, gg.tape, gg.output, gg.size, fun g o hg ho => ?_⟩
  by_cases e : g = N
  · subst e
    rw [q] at hg
    injection hg with hg
    exact absurd hg.symm (ho hN cs (0, 0))
  · exact (set_old e).trans hg
theorem Tw11.keeps {M : Nat} {A B : World} (h : Tw11 M A B) (C : Nat) : KeepsFrom C A B := ⟨h.size, fun k o _ hk ho => h.same k o hk (fun _ cs fr e => by subst e; cases ho)⟩
theorem Tw11.below {M : Nat} {A B : World} (h : Tw11 M A B) (hM : M ≤ A.heap.size) : Below M A B :=
  ⟨h.os, h.tape, h.output, h.size, fun k hk => by
    obtain ⟨o, ho⟩ : ∃ o, A.heap[k]? = some o := ⟨_, Array.getElem?_eq_getElem (by omega)⟩
    rw [ho]; exact h.same k o ho (fun h2 => by omega)⟩
/-- What a round keeps for the iterator. -/
structure Kp11 (M : Nat) (A B : World) : Prop where
  size : A.heap.size ≤ B.heap.size
  old : ∀ g, g < M → g < A.heap.size → B.heap[g]? = A.heap[g]?
  same : ∀ (g : Nat) (cs : Array Value) (t : TypeId) (fr : Nat × Nat), A.heap[g]? = some (Obj.cells cs t fr) → (t = 26 ∨ t = 9 ∨ t = 24) → B.heap[g]? = some (Obj.cells cs t fr)
theorem Kp11.trans {M : Nat} {A B C : World} (h : Kp11 M A B) (k : Kp11 M B C) : Kp11 M A C :=
  ⟨Nat.le_trans h.size k.size, fun g h1 h2 => (k.old g h1 (Nat.lt_of_lt_of_le h2 h.size)).trans (h.old g h1 h2), fun g cs t fr hg ht => k.same g cs t fr (h.same g cs t fr hg ht) ht⟩
theorem Kp11.of_below {M : Nat} {A B : World} (h : Below A.heap.size A B) : Kp11 M A B :=
  ⟨h.size, fun g _ hg => h.block g hg, fun g cs t fr hg _ => (h.block g (lt_of_block hg)).trans hg⟩
theorem Kp11.put {M : Nat} {w : World} (hM : M ≤ w.heap.size) (W : World) (l : Nat) (o o' : Obj) (hl : w.heap.size ≤ l) (h : W.heap[l]? = some o) (hc : o.isCells = false) (_ : o.isWalk = false) : Kp11 M W (W.putObj l o') :=
  ⟨(grownBy_putObj' W l o').size, fun g h1 _ => World.putObj_heap_other (by omega), fun g cs t fr hg _ => by
    refine (World.putObj_heap_other ?_).trans hg
    intro e; subst e
    rw [h] at hg; injection hg with hg; subst hg; cases hc⟩
/-- What a store into another kind of block keeps. -/
theorem Kp11.of_grown {M : Nat} {A B : World} {row : Option Nat} (h : A.grownBy B row) (hr : ∀ r, row = some r → M ≤ r ∧ ∀ (cs : Array Value) (t : TypeId) (fr : Nat × Nat), A.heap[r]? = some (Obj.cells cs t fr) → t ≠ 26 ∧ t ≠ 9 ∧ t ≠ 24) : Kp11 M A B :=
  ⟨h.size, fun g h1 h2 => h.block g h2 (fun e => by have := (hr g e.symm).1; omega), fun g cs t fr hg ht => by
    refine (h.block g (lt_of_block hg) ?_).trans hg
    intro e
    obtain ⟨_, h3⟩ := hr g e.symm
    obtain ⟨a, b, c⟩ := h3 cs t fr hg
    rcases ht with ht | ht | ht
    · exact a ht
    · exact b ht
    · exact c ht⟩
/-- What the iterator has. -/
structure Its (w0 : World) (Bt Bo N : Nat) (cs : Array Value) (t : List UInt8) (ns : Array Value) (X : World) : Prop where
  size : w0.heap.size ≤ X.heap.size
  old : ∀ g, g < w0.heap.size → X.heap[g]? = w0.heap[g]?
  bt : X.heap[Bt]? = some (.cells cs 26 (0, 0))
  bo : X.heap[Bo]? = some (.cells #[.string (str t)] 9 (0, 0))
  bn : X.heap[N]? = some (.cells ns 24 (0, 0))
section
variable {w0 : World} {Bt Bo N : Nat} {cs : Array Value} {t : List UInt8} {ns : Array Value} {X Y : World} (h : Its w0 Bt Bo N cs t ns X)
include h
theorem Its.below (g : Below X.heap.size X Y) : Its w0 Bt Bo N cs t ns Y :=
  ⟨Nat.le_trans h.size g.size, fun k hk => (g.block k (Nat.lt_of_lt_of_le hk h.size)).trans (h.old k hk), (g.block _ (lt_of_block h.bt)).trans h.bt, (g.block _ (lt_of_block h.bo)).trans h.bo, (g.block _ (lt_of_block h.bn)).trans h.bn⟩
theorem Its.kp (g : Kp11 w0.heap.size X Y) : Its w0 Bt Bo N cs t ns Y :=
  ⟨Nat.le_trans h.size g.size, fun k hk => (g.old k hk (Nat.lt_of_lt_of_le hk h.size)).trans (h.old k hk), g.same _ _ _ _ h.bt (.inl rfl), g.same _ _ _ _ h.bo (.inr (.inl rfl)), g.same _ _ _ _ h.bn (.inr (.inr rfl))⟩
theorem Its.set (hN : w0.heap.size ≤ N) (h1 : Bt ≠ N) (h2 : Bo ≠ N) (i : Nat) (v : Value) : Its w0 Bt Bo N cs t (ns.setIfInBounds i v) (X.setCell ⟨N, i, none⟩ v) :=
  ⟨Nat.le_trans h.size (grown_setB (i := i) (u := v) (B := N) (grown_reflB (w := X) (r := some N))).size, fun k hk => (set_old (by omega)).trans (h.old k hk), (set_old h1).trans h.bt, (set_old h2).trans h.bo, set_at h.bn⟩
theorem Its.rdt {lv : Nat → List It} {vs : Nat → Int} (hT : RdT w0 cs lv vs) : RdT X cs lv vs := hT.keep h.size h.old
end
theorem RdN.set {ns : Array Value} {nx : Nat → Nat} (h : RdN ns nx) (i v : Nat) : RdN (ns.setIfInBounds i (.int .i64 (v : Int))) (fun b => if b = i then v else nx b) := by
  refine ⟨by rw [Array.size_setIfInBounds]; exact h.1, fun b hb => ?_⟩
  by_cases e : b = i
  · subst e
    rw [Array.getElem?_setIfInBounds_self_of_lt (by rw [h.1]; exact hb)]; simp
  · rw [Array.getElem?_setIfInBounds_ne (fun h => e h.symm), h.2 b hb]; simp [e]
abbrev zN : Array Value := #[.int .i64 0, .int .i64 0, .int .i64 0, .int .i64 0, .int .i64 0, .int .i64 0, .int .i64 0, .int .i64 0, .int .i64 0, .int .i64 0, .int .i64 0, .int .i64 0, .int .i64 0, .int .i64 0, .int .i64 0, .int .i64 0]
theorem zN_rd : RdN zN (fun _ => 0) := ⟨rfl, fun b hb => by
  have : b = 0 ∨ b = 1 ∨ b = 2 ∨ b = 3 ∨ b = 4 ∨ b = 5 ∨ b = 6 ∨ b = 7 ∨ b = 8 ∨ b = 9 ∨ b = 10 ∨ b = 11 ∨ b = 12 ∨ b = 13 ∨ b = 14 ∨ b = 15 := by omega
  rcases this with rfl | rfl | rfl | rfl | rfl | rfl | rfl | rfl | rfl | rfl | rfl | rfl | rfl | rfl | rfl | rfl <;> rfl⟩
end Go.Proofs.YtbdfcgffkonbiaaDoor
