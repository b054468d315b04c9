/- A range over a function whose iterator keeps cells of its own: the law of the loop. Tw says what the iterator itself does to the world between two rounds; Kp what a round keeps for it. -/
import Derived.RangeFuncWrites
import Derived.RangeFuncNested
import Derived.RangeFuncBound
import Derived.RangeFuncCalls
import Derived.RangeFuncLeaves
import Derived.RangeFuncBox
import Derived.Shelf.Abstract
import Derived.Shelf.RegionOpen
import Derived.WalkKit
import Derived.OwnWalkIn
import Derived.TacticsInMore
import Derived.LoopNIn
import Derived.LoopIn
import Derived.Maps.AppendAt
namespace Go.Proofs.YtbdfcgffkonbiaaGreatDoor
open Go Go.RowKit
set_option linter.unusedVariables false
/-- What is asked behind a round's body. -/
def roundEnd {α : Type} (B : Nat) (Kp : World → World → Prop) (I : List α → World → Prop) (Ix : Code → List α → World → Prop) (xs : List α) (W : World) (e : Exit) (_ : Act) (W' : World) : Prop :=
  match e with
  | .normal => KeepsFrom B W W' ∧ Kp W W' ∧ I xs W'
  | .ret => KeepsFrom B W W' ∧ Ix .ret xs W'
  | .exit i => KeepsFrom B W W' ∧ Ix (.exit i) xs W'
  | .goto t => KeepsFrom B W W' ∧ Ix (.goto t) xs W'
  | _ => False
/-- The iterator's contract: whatever J, kept by what the iterator does, a round turns from one list to the next. -/
def Gives {α : Type} (F : Fence) (n : Nat) (P : Program) (gf : Nat) (lb : Array Value) (encs : α → Array Value) (Tw Kp : World → World → Prop) (S Sp : List α → Prop) (N : Nat) (w : World) : Prop :=
  ∀ (l : Nat) (J Jx : List α → World → Prop) (W : World), Below w.heap.size w W → (∀ s A B, J s A → Tw A B → J s B) → (∀ s A B, Jx s A → Tw A B → Jx s B) →
    (∀ pre x W1, J pre W1 → pre.length < N → YieldAt F (n - 1) P l (encs x) W1 fun e W' => (e = .returned (.bool true) ∧ J (pre ++ [x]) W' ∧ Kp W1 W') ∨ (e = .returned (.bool false) ∧ Jx (pre ++ [x]) W')) →
    J [] W → CallsIn F n P gf (#[.func (.yield l) #[] #[]] ++ lb) W fun e W' => (∃ v, e = .returned v) ∧ ((∃ xs, S xs ∧ J xs W') ∨ ∃ pre, Sp pre ∧ Jx pre W')
section
variable {α : Type} {F : Fence} {n : Nat} {P : Program}
theorem range_law {g : Operand} {ps : Array Tmp} {assign body : Code} {Q : Exit → Act → World → Prop} {a : Act} {w : World}
    (hro : F.round = none) (h1 : 1 ≤ n) {gf : Nat} {lb : Array Value} (hg : a.eval g = .func (.func gf) #[] lb) (hFg : F.fn gf) (eg : ∀ args w, (callFunc gf args).run P w = .ok (.enter gf args) w)
    {encs : α → Array Value} (hps : ∀ x, (encs x).size = ps.size) {Tw Kp : World → World → Prop} {S Sp : List α → Prop} {N : Nat} (hseq : Gives F (n - 1) P gf lb encs Tw Kp S Sp N w)
    (hTw : ∀ A B, Tw A B → KeepsFrom w.heap.size A B) (hKt : ∀ {A B C : World}, Kp A B → Kp B C → Kp A C)
    (hKb : ∀ (W : World) (l : Nat) (o o' : Obj), w.heap.size ≤ l → W.heap[l]? = some o → o.isCells = false → o.isWalk = false → Kp W (W.putObj l o'))
    (I : List α → World → Prop) (Ix : Code → List α → World → Prop) (hI : OwnFrom w.heap.size I) (hIx : ∀ c, OwnFrom w.heap.size (Ix c))
    (hIT : ∀ s A B, I s A → Tw A B → I s B) (hIxT : ∀ c s A B, Ix c s A → Tw A B → Ix c s B) (h0 : I [] w) (a₁ : α → Act)
    (hassign : ∀ (l : Nat) (x : α) (W : World) (K : Act → World → Prop), K (a₁ x) W →
      assign.wpIn (F.inRound l) (n - 1 - 1) P (Exit.then K (fun _ _ _ => False)) { tmps := (ps.zip (encs x)).foldl (fun t (p, v) => t.setIfInBounds p v) a.tmps, defers := [] } W)
    (hbody : ∀ (l : Nat) (pre : List α) (x : α) (W : World), I pre W → pre.length < N → body.wpIn (F.inRound l) (n - 1 - 1) P (roundEnd w.heap.size Kp I Ix (pre ++ [x]) W) (a₁ x) W)
    (hdone : ∀ (D : Nat) (xs : List α) (W : World), w.heap.size ≤ D → S xs → I xs W → W.heap[D]? = some (.deferred (some [])) → Q .normal { a with defers := { target := .collected D, args := #[] } :: a.defers } W)
    (hstop : ∀ (D : Nat) (c : Code) (pre : List α) (W : World), w.heap.size ≤ D → Sp pre → Ix c pre W → W.heap[D]? = some (.deferred (some [])) → c.wpIn F n P Q { a with defers := { target := .collected D, args := #[] } :: a.defers } W) :
    (Code.rangeFunc g ps assign body).wpIn F n P Q a w := by
  refine wpIn_rangeFunc fun fn hfn => ?_
  rw [hro]
  -- the two blocks of the book-keeping: D for what rounds defer, D + 1 for the loop
  obtain ⟨D, hD⟩ : ∃ D, D = w.heap.size := ⟨_, rfl⟩
  obtain ⟨R, hR⟩ : ∃ R : LoopState → Option Code → Loop, R = fun s p => { state := s, pending := p, fn, tmps := a.tmps, params := ps, assign, body, defers := w.heap.size } := ⟨_, rfl⟩
  have book : ∃ V, V = (w.alloc (.deferred (some []))).alloc (.loop (R .ready none)) := ⟨_, rfl⟩
  obtain ⟨V, hV⟩ := book
  have bV : Below w.heap.size w V := by rw [hV]; exact ((Below.refl _ w).alloc (Nat.le_refl _) _).alloc (by simp) _
  have iV : I [] V := by rw [hV]; exact hI.alloc _ (hI.alloc _ h0)
  have lV : V.heap[D + 1]? = some (.loop (R .ready none)) := by
    have := World.alloc_heap_new (w.alloc (.deferred (some []))) (.loop (R .ready none))
    rw [World.size_alloc] at this
    rw [hV, hD]; exact this
  have dV : V.heap[D]? = some (.deferred (some [])) := by
    rw [hV, hD]; exact (Below.heap_alloc _ _ _ (by simp)).trans (World.alloc_heap_new w _)
  refine ⟨D + 1, [{ target := .collected D, args := #[] }], V, { target := .fn (.func gf) lb, args := #[.func (.yield (D + 1)) #[] #[]] }, V, gf, #[.func (.yield (D + 1)) #[] #[]] ++ lb, V, ?_, ?_, ?_, ?_, fun _ => h1, ?_⟩
  · rw [hV, hR, hD]; exact run_enterLoop_outer _ _ _ _ _
  · simp only [resolve, hg]; simp [go_sem]
  · intro f' hf'; simp [Target.leads] at hf'; subst hf'; exact hFg
  · simp [invoke, go_sem, eg]
  have keep : ∀ {A B : World} {k : Nat} {o : Obj}, Tw A B → D ≤ k → A.heap[k]? = some o → o.isCells = false → B.heap[k]? = some o := fun ht hk ho hc => (hTw _ _ ht).same _ _ (by omega) ho hc
  -- a round's end: the record turns, all else of the book-keeping stays
  have ends : ∀ (jump : Option Code) (X Y : World), X.heap[D + 1]? = some (.loop { R .ready none with state := .busy }) → X.heap[D]? = some (.deferred (some [])) → KeepsFrom w.heap.size X Y →
      Y.heap[D + 1]? = some (.loop { R .ready none with state := .busy }) ∧ (Instr.endRound (D + 1) jump).run P Y = .ok (.bool jump.isNone) (Y.putObj (D + 1) (.loop (R (if jump.isNone then .ready else .done) jump))) ∧
      (Y.putObj (D + 1) (.loop (R (if jump.isNone then .ready else .done) jump))).heap[D + 1]? = some (.loop (R (if jump.isNone then .ready else .done) jump)) ∧
      (Y.putObj (D + 1) (.loop (R (if jump.isNone then .ready else .done) jump))).heap[D]? = some (.deferred (some [])) := by
    intro jump X Y hl hd hk
    have l2 := hk.same _ _ (by omega) hl rfl
    have d2 := hk.same _ _ (by omega) hd rfl
    have r := run_endRound (P := P) jump l2
    rw [hR] at r l2 ⊢
    exact ⟨l2, r, World.putObj_heap_same (Array.getElem?_eq_some_iff.1 l2).1, (World.putObj_heap_other (by omega)).trans d2⟩
  refine (hseq (D + 1) (fun s W => I s W ∧ W.heap[D + 1]? = some (.loop (R .ready none)) ∧ W.heap[D]? = some (.deferred (some [])))
    (fun s W => ∃ c, Ix c s W ∧ W.heap[D + 1]? = some (.loop (R .done (some c))) ∧ W.heap[D]? = some (.deferred (some []))) V bV
    (fun s A B h t => ⟨hIT s A B h.1 t, keep t (by omega) h.2.1 rfl, keep t (Nat.le_refl _) h.2.2 rfl⟩)
    (fun s A B ⟨c, hc, hl, hd⟩ t => ⟨c, hIxT c s A B hc t, keep t (by omega) hl rfl, keep t (Nat.le_refl _) hd rfl⟩) ?_ ⟨iV, lV, dV⟩).mono ?_
  · rintro pre x W ⟨hi, hl, hd⟩ hlen
    have hy := run_yield (P := P) (args := encs x) hl (by rw [hR]; exact hps x)
    rw [hR] at hy
    obtain ⟨X, hX⟩ : ∃ X, X = W.putObj (D + 1) (.loop { R .ready none with state := .busy }) := ⟨_, rfl⟩
    have hsz : D + 1 < W.heap.size := (Array.getElem?_eq_some_iff.1 hl).1
    have lX : X.heap[D + 1]? = some (.loop { R .ready none with state := .busy }) := by rw [hX]; exact World.putObj_heap_same hsz
    have dX : X.heap[D]? = some (.deferred (some [])) := by rw [hX]; exact (World.putObj_heap_other (by omega)).trans hd
    have kX : Kp W X := by rw [hX]; exact hKb _ _ _ _ (by omega) hl rfl rfl
    have iX : I pre X := by rw [hX]; exact hI.putObj _ hi (by omega) hl rfl
    refine ⟨fn, _, assign, body, hy, roundIn_of_wpIn hfn (hassign _ x W _ ⟨X, by rw [hX]; exact run_beginRound hl (by rw [hR]), ?_⟩)⟩
    refine wpIn_mono (hbody _ pre x X iX hlen) ?_
    intro e b Y hp
    cases e with
    | normal =>
      obtain ⟨k, kp, hi⟩ := hp
      obtain ⟨l2, r, l3, d3⟩ := ends none X Y lX dX k
      exact ⟨_, _, r, .inl ⟨rfl, ⟨hI.putObj _ hi (by omega) l2 rfl, l3, d3⟩, hKt (hKt kX kp) (hKb _ _ _ _ (by omega) l2 rfl rfl)⟩⟩
    | ret =>
      obtain ⟨l2, r, l3, d3⟩ := ends (some .ret) X Y lX dX hp.1
      exact ⟨_, _, r, .inr ⟨rfl, .ret, (hIx _).putObj _ hp.2 (by omega) l2 rfl, l3, d3⟩⟩
    | exit i =>
      obtain ⟨l2, r, l3, d3⟩ := ends (some (.exit i)) X Y lX dX hp.1
      exact ⟨_, _, r, .inr ⟨rfl, .exit i, (hIx _).putObj _ hp.2 (by omega) l2 rfl, l3, d3⟩⟩
    | goto t =>
      obtain ⟨l2, r, l3, d3⟩ := ends (some (.goto t)) X Y lX dX hp.1
      exact ⟨_, _, r, .inr ⟨rfl, .goto t, (hIx _).putObj _ hp.2 (by omega) l2 rfl, l3, d3⟩⟩
    | panic c => exact hp.elim
    | outgrown => exact hp.elim
  · rintro e W ⟨⟨v, rfl⟩, h⟩
    have shut : ∀ {s : LoopState} {p : Option Code}, s ≠ .busy → W.heap[D + 1]? = some (.loop (R s p)) → W.heap[D]? = some (.deferred (some [])) →
        (Instr.endLoop (D + 1)).run P W = .ok p (W.putObj (D + 1) (.loop { R s p with state := .exhausted })) ∧ (W.putObj (D + 1) (.loop { R s p with state := .exhausted })).heap[D]? = some (.deferred (some [])) := by
      intro s p hs hl hd
      have := run_endLoop (P := P) hl (by rw [hR]; simpa using hs)
      rw [hR] at this ⊢
      exact ⟨this, (World.putObj_heap_other (by omega)).trans hd⟩
    rcases h with ⟨xs, hS, hi, hl, hd⟩ | ⟨pre, hS, c, hi, hl, hd⟩
    · obtain ⟨r, d⟩ := shut (by simp) hl hd
      exact ⟨none, _, r, hdone D xs _ (by omega) hS (hI.putObj _ hi (by omega) hl rfl) d⟩
    · obtain ⟨r, d⟩ := shut (by simp) hl hd
      exact ⟨some c, _, r, hstop D c pre _ (by omega) hS ((hIx c).putObj _ hi (by omega) hl rfl) d⟩
end
end Go.Proofs.YtbdfcgffkonbiaaGreatDoor
