/- A range over a function whose iterator keeps cells of its own: the law of the loop. Tw says what the iterator itself does to the world between two rounds; Kp what a round keeps for it. -/
/- Leaves: the chunks: the library's iterator, and the list of their encodings. Written by wip/tools/gen9i.py. -/
import Derived.RangeFuncWrites
import Derived.RangeFuncNested
import Derived.RangeFuncBound
import Derived.RangeFuncCalls
import Derived.RangeFuncLeaves
import Derived.RangeFuncBox
import Derived.Shelf.Abstract
import Derived.Shelf.RegionOpen
import Derived.WalkKit
import Derived.OwnWalkIn
import Derived.TacticsInMore
import Derived.LoopNIn
import Derived.LoopIn
import Derived.Maps.AppendAt
import Derived.Test.YtoagdmglchccnaaGreatDoorQRR18
import Derived.Sort.QuietIn
import Derived.Stop.RegionWithIn
namespace Go.Proofs.YtoagdmglchccnaaGreatDoor
open Go Go.RowKit
set_option linter.unusedVariables false
/-- What is asked behind a round's body. -/
def roundEnd {α : Type} (B : Nat) (Kp : World → World → Prop) (I : List α → World → Prop) (Ix : Code → List α → World → Prop) (xs : List α) (W : World) (e : Exit) (_ : Act) (W' : World) : Prop :=
  match e with
  | .normal => KeepsFrom B W W' ∧ Kp W W' ∧ I xs W'
  | .ret => KeepsFrom B W W' ∧ Ix .ret xs W'
  | .exit i => KeepsFrom B W W' ∧ Ix (.exit i) xs W'
  | .goto t => KeepsFrom B W W' ∧ Ix (.goto t) xs W'
  | _ => False
/-- The iterator's contract: whatever J, kept by what the iterator does, a round turns from one list to the next. -/
def Gives {α : Type} (F : Fence) (n : Nat) (P : Program) (gf : Nat) (lb : Array Value) (encs : α → Array Value) (Tw Kp : World → World → Prop) (S Sp : List α → Prop) (N : Nat) (w : World) : Prop :=
  ∀ (l : Nat) (J Jx : List α → World → Prop) (W : World), Below w.heap.size w W → (∀ s A B, J s A → Tw A B → J s B) → (∀ s A B, Jx s A → Tw A B → Jx s B) →
    (∀ pre x W1, J pre W1 → pre.length < N → YieldAt F (n - 1) P l (encs x) W1 fun e W' => (e = .returned (.bool true) ∧ J (pre ++ [x]) W' ∧ Kp W1 W') ∨ (e = .returned (.bool false) ∧ Jx (pre ++ [x]) W')) →
    J [] W → CallsIn F n P gf (#[.func (.yield l) #[] #[]] ++ lb) W fun e W' => (∃ v, e = .returned v) ∧ ((∃ xs, S xs ∧ J xs W') ∨ ∃ pre, Sp pre ∧ Jx pre W')
section
variable {α : Type} {F : Fence} {n : Nat} {P : Program}
theorem range_law {g : Operand} {ps : Array Tmp} {assign body : Code} {Q : Exit → Act → World → Prop} {a : Act} {w : World}
    (hro : F.round = none) (h1 : 1 ≤ n) {gf : Nat} {lb : Array Value} (hg : a.eval g = .func (.func gf) #[] lb) (hFg : F.fn gf) (eg : ∀ args w, (callFunc gf args).run P w = .ok (.enter gf args) w)
    {encs : α → Array Value} (hps : ∀ x, (encs x).size = ps.size) {Tw Kp : World → World → Prop} {S Sp : List α → Prop} {N : Nat} (hseq : Gives F (n - 1) P gf lb encs Tw Kp S Sp N w)
    (hTw : ∀ A B, Tw A B → KeepsFrom w.heap.size A B) (hKt : ∀ {A B C : World}, Kp A B → Kp B C → Kp A C)
    (hKb : ∀ (W : World) (l : Nat) (o o' : Obj), w.heap.size ≤ l → W.heap[l]? = some o → o.isCells = false → o.isWalk = false → Kp W (W.putObj l o'))
    (I : List α → World → Prop) (Ix : Code → List α → World → Prop) (hI : OwnFrom w.heap.size I) (hIx : ∀ c, OwnFrom w.heap.size (Ix c))
    (hIT : ∀ s A B, I s A → Tw A B → I s B) (hIxT : ∀ c s A B, Ix c s A → Tw A B → Ix c s B) (h0 : I [] w) (a₁ : α → Act)
    (hassign : ∀ (l : Nat) (x : α) (W : World) (K : Act → World → Prop), K (a₁ x) W →
      assign.wpIn (F.inRound l) (n - 1 - 1) P (Exit.then K (fun _ _ _ => False)) { tmps := (ps.zip (encs x)).foldl (fun t (p, v) => t.setIfInBounds p v) a.tmps, defers := [] } W)
    (hbody : ∀ (l : Nat) (pre : List α) (x : α) (W : World), I pre W → pre.length < N → body.wpIn (F.inRound l) (n - 1 - 1) P (roundEnd w.heap.size Kp I Ix (pre ++ [x]) W) (a₁ x) W)
    (hdone : ∀ (D : Nat) (xs : List α) (W : World), w.heap.size ≤ D → S xs → I xs W → W.heap[D]? = some (.deferred (some [])) → Q .normal { a with defers := { target := .collected D, args := #[] } :: a.defers } W)
    (hstop : ∀ (D : Nat) (c : Code) (pre : List α) (W : World), w.heap.size ≤ D → Sp pre → Ix c pre W → W.heap[D]? = some (.deferred (some [])) → c.wpIn F n P Q { a with defers := { target := .collected D, args := #[] } :: a.defers } W) :
    (Code.rangeFunc g ps assign body).wpIn F n P Q a w := by
  refine wpIn_rangeFunc fun fn hfn => ?_
  rw [hro]
  -- the two blocks of the book-keeping: D for what rounds defer, D + 1 for the loop
  obtain ⟨D, hD⟩ : ∃ D, D = w.heap.size := ⟨_, rfl⟩
  obtain ⟨R, hR⟩ : ∃ R : LoopState → Option Code → Loop, R = fun s p => { state := s, pending := p, fn, tmps := a.tmps, params := ps, assign, body, defers := w.heap.size } := ⟨_, rfl⟩
  have book : ∃ V, V = (w.alloc (.deferred (some []))).alloc (.loop (R .ready none)) := ⟨_, rfl⟩
  obtain ⟨V, hV⟩ := book
  have bV : Below w.heap.size w V := by rw [hV]; exact ((Below.refl _ w).alloc (Nat.le_refl _) _).alloc (by simp) _
  have iV : I [] V := by rw [hV]; exact hI.alloc _ (hI.alloc _ h0)
  have lV : V.heap[D + 1]? = some (.loop (R .ready none)) := by
    have := World.alloc_heap_new (w.alloc (.deferred (some []))) (.loop (R .ready none))
    rw [World.size_alloc] at this
    rw [hV, hD]; exact this
  have dV : V.heap[D]? = some (.deferred (some [])) := by
    rw [hV, hD]; exact (Below.heap_alloc _ _ _ (by simp)).trans (World.alloc_heap_new w _)
  refine ⟨D + 1, [{ target := .collected D, args := #[] }], V, { target := .fn (.func gf) lb, args := #[.func (.yield (D + 1)) #[] #[]] }, V, gf, #[.func (.yield (D + 1)) #[] #[]] ++ lb, V, ?_, ?_, ?_, ?_, fun _ => h1, ?_⟩
  · rw [hV, hR, hD]; exact run_enterLoop_outer _ _ _ _ _
  · simp only [resolve, hg]; simp [go_sem]
  · intro f' hf'; simp [Target.leads] at hf'; subst hf'; exact hFg
  · simp [invoke, go_sem, eg]
  have keep : ∀ {A B : World} {k : Nat} {o : Obj}, Tw A B → D ≤ k → A.heap[k]? = some o → o.isCells = false → B.heap[k]? = some o := fun ht hk ho hc => (hTw _ _ ht).same _ _ (by omega) ho hc
  -- a round's end: the record turns, all else of the book-keeping stays
  have ends : ∀ (jump : Option Code) (X Y : World), X.heap[D + 1]? = some (.loop { R .ready none with state := .busy }) → X.heap[D]? = some (.deferred (some [])) → KeepsFrom w.heap.size X Y →
      Y.heap[D + 1]? = some (.loop { R .ready none with state := .busy }) ∧ (Instr.endRound (D + 1) jump).run P Y = .ok (.bool jump.isNone) (Y.putObj (D + 1) (.loop (R (if jump.isNone then .ready else .done) jump))) ∧
      (Y.putObj (D + 1) (.loop (R (if jump.isNone then .ready else .done) jump))).heap[D + 1]? = some (.loop (R (if jump.isNone then .ready else .done) jump)) ∧
      (Y.putObj (D + 1) (.loop (R (if jump.isNone then .ready else .done) jump))).heap[D]? = some (.deferred (some [])) := by
    intro jump X Y hl hd hk
    have l2 := hk.same _ _ (by omega) hl rfl
    have d2 := hk.same _ _ (by omega) hd rfl
    have r := run_endRound (P := P) jump l2
    rw [hR] at r l2 ⊢
    exact ⟨l2, r, World.putObj_heap_same (Array.getElem?_eq_some_iff.1 l2).1, (World.putObj_heap_other (by omega)).trans d2⟩
  refine (hseq (D + 1) (fun s W => I s W ∧ W.heap[D + 1]? = some (.loop (R .ready none)) ∧ W.heap[D]? = some (.deferred (some [])))
    (fun s W => ∃ c, Ix c s W ∧ W.heap[D + 1]? = some (.loop (R .done (some c))) ∧ W.heap[D]? = some (.deferred (some []))) V bV
    (fun s A B h t => ⟨hIT s A B h.1 t, keep t (by omega) h.2.1 rfl, keep t (Nat.le_refl _) h.2.2 rfl⟩)
    (fun s A B ⟨c, hc, hl, hd⟩ t => ⟨c, hIxT c s A B hc t, keep t (by omega) hl rfl, keep t (Nat.le_refl _) hd rfl⟩) ?_ ⟨iV, lV, dV⟩).mono ?_
  · rintro pre x W ⟨hi, hl, hd⟩ hlen
    have hy := run_yield (P := P) (args := encs x) hl (by rw [hR]; exact hps x)
    rw [hR] at hy
    obtain ⟨X, hX⟩ : ∃ X, X = W.putObj (D + 1) (.loop { R .ready none with state := .busy }) := ⟨_, rfl⟩
    have hsz : D + 1 < W.heap.size := (Array.getElem?_eq_some_iff.1 hl).1
    have lX : X.heap[D + 1]? = some (.loop { R .ready none with state := .busy }) := by rw [hX]; exact World.putObj_heap_same hsz
    have dX : X.heap[D]? = some (.deferred (some [])) := by rw [hX]; exact (World.putObj_heap_other (by omega)).trans hd
    have kX : Kp W X := by rw [hX]; exact hKb _ _ _ _ (by omega) hl rfl rfl
    have iX : I pre X := by rw [hX]; exact hI.putObj _ hi (by omega) hl rfl
    refine ⟨fn, _, assign, body, hy, roundIn_of_wpIn hfn (hassign _ x W _ ⟨X, by rw [hX]; exact run_beginRound hl (by rw [hR]), ?_⟩)⟩
    refine wpIn_mono (hbody _ pre x X iX hlen) ?_
    intro e b Y hp
    cases e with
    | normal =>
      obtain ⟨k, kp, hi⟩ := hp
      obtain ⟨l2, r, l3, d3⟩ := ends none X Y lX dX k
      exact ⟨_, _, r, .inl ⟨rfl, ⟨hI.putObj _ hi (by omega) l2 rfl, l3, d3⟩, hKt (hKt kX kp) (hKb _ _ _ _ (by omega) l2 rfl rfl)⟩⟩
    | ret =>
      obtain ⟨l2, r, l3, d3⟩ := ends (some .ret) X Y lX dX hp.1
      exact ⟨_, _, r, .inr ⟨rfl, .ret, (hIx _).putObj _ hp.2 (by omega) l2 rfl, l3, d3⟩⟩
    | exit i =>
      obtain ⟨l2, r, l3, d3⟩ := ends (some (.exit i)) X Y lX dX hp.1
      exact ⟨_, _, r, .inr ⟨rfl, .exit i, (hIx _).putObj _ hp.2 (by omega) l2 rfl, l3, d3⟩⟩
    | goto t =>
      obtain ⟨l2, r, l3, d3⟩ := ends (some (.goto t)) X Y lX dX hp.1
      exact ⟨_, _, r, .inr ⟨rfl, .goto t, (hIx _).putObj _ hp.2 (by omega) l2 rfl, l3, d3⟩⟩
    | panic c => exact hp.elim
    | outgrown => exact hp.elim
  · rintro e W ⟨⟨v, rfl⟩, h⟩
    have shut : ∀ {s : LoopState} {p : Option Code}, s ≠ .busy → W.heap[D + 1]? = some (.loop (R s p)) → W.heap[D]? = some (.deferred (some [])) →
        (Instr.endLoop (D + 1)).run P W = .ok p (W.putObj (D + 1) (.loop { R s p with state := .exhausted })) ∧ (W.putObj (D + 1) (.loop { R s p with state := .exhausted })).heap[D]? = some (.deferred (some [])) := by
      intro s p hs hl hd
      have := run_endLoop (P := P) hl (by rw [hR]; simpa using hs)
      rw [hR] at this ⊢
      exact ⟨this, (World.putObj_heap_other (by omega)).trans hd⟩
    rcases h with ⟨xs, hS, hi, hl, hd⟩ | ⟨pre, hS, c, hi, hl, hd⟩
    · obtain ⟨r, d⟩ := shut (by simp) hl hd
      exact ⟨none, _, r, hdone D xs _ (by omega) hS (hI.putObj _ hi (by omega) hl rfl) d⟩
    · obtain ⟨r, d⟩ := shut (by simp) hl hd
      exact ⟨some c, _, r, hstop D c pre _ (by omega) hS ((hIx c).putObj _ hi (by omega) hl rfl) d⟩
end
end Go.Proofs.YtoagdmglchccnaaGreatDoor
namespace Go.Proofs.YtoagdmglchccnaaGreatDoor
open Go Go.RowKit
attribute [local go_sem] Oper.semAt_some
set_option linter.unusedVariables false
set_option linter.unusedSimpArgs false
/-- How many items the chunk has that begins at i. -/
def mm (n i : Nat) : Nat := min 8 (n - i)
/-- Where chunks begin. -/
def starts (n : Nat) : List Nat := (List.range ((n + 7) / 8)).map (8 * ·)
def chunkAt (l : List It) (i : Nat) : List It := (l.drop i).take 8
def chunksL (l : List It) : List (List UInt8) := (starts l.length).map fun i => encC (chunkAt l i)
def ckV (ao : Option Addr) (n i : Nat) : Value := .slice (ao.map fun a => a.add (i * 5)) (mm n i) (mm n i)
def TwC (X Y : World) : Prop := ∃ n, Y = X.drewN n
def KpC (B : Nat) (X Y : World) : Prop := X.heap.size ≤ Y.heap.size ∧ Y.heap[B]? = X.heap[B]? ∧ Y.heap[B + 1]? = X.heap[B + 1]?
theorem KpC.trans {B : Nat} {X Y Z : World} (h : KpC B X Y) (k : KpC B Y Z) : KpC B X Z := ⟨Nat.le_trans h.1 k.1, k.2.1.trans h.2.1, k.2.2.trans h.2.2⟩
theorem starts_succ (j : Nat) : (List.range (j + 1)).map (8 * ·) = (List.range j).map (8 * ·) ++ [8 * j] := by
  rw [List.range_succ, List.map_append]; rfl
theorem chunk_any (ao : Option Addr) (n cap : Nat) (w : World) :
    Calls Tryz.prog 83 #[.slice ao n cap, .int .i64 8] w fun e w' => e = .returned (.func (.func 107) #[] #[.pointer (some ⟨w.heap.size, 0, none⟩), .pointer (some ⟨w.heap.size + 1, 0, none⟩)]) ∧ w' = (w.alloc (.cells #[.slice ao n cap] 23)).alloc (.cells #[.int .i64 8] 3) := by
  go_enter Tryz.func83, Tryz.ntmps83
  go_wp2_with fail
  go_ret
  exact ⟨by simp, rfl⟩
theorem boxed_drewC {X : World} {B : Nat} {t : TypeId} {v : Value} (h : Boxed X B t v) (n : Nat) : Boxed (X.drewN n) B t v := h
set_option maxRecDepth 100000 in
set_option maxHeartbeats 1000000 in
theorem chunk_gives (n : Nat) (hn : 1 ≤ n) (B : Nat) (ao : Option Addr) (len cap : Nat) (hlen : len ≤ 1000) (hc : len ≤ cap) (hcm : cap ≤ 9223372036854775807) (hao : 0 < len → ∃ b off, ao = some ⟨b, off, none⟩) (w : World) (hbox : Boxed w B 23 (.slice ao len cap)) (hbn : Boxed w (B + 1) 3 (.int .i64 8)) :
    Gives Fence.wide n Tryz.prog 107 #[.pointer (some ⟨B, 0, none⟩), .pointer (some ⟨B + 1, 0, none⟩)] (fun i : Nat => #[ckV ao len i]) TwC (KpC B) (fun xs => xs = starts len) (fun pre => True) 1000 w := by
  intro l J Jx W hW hJT hJxT hY h0
  have hb0 : Boxed W B 23 (.slice ao len cap) := (hW.block _ hbox.lt).trans hbox
  have hb1 : Boxed W (B + 1) 3 (.int .i64 8) := (hW.block _ hbn.lt).trans hbn
  obtain ⟨i0, hi, hz0, hz1, hz2⟩ := info_parts item_info
  refine callsIn_of_wp Tryz.func107 rfl trivial ?_ rfl
  simp only [Tryz.ntmps107, List.size_toArray, List.length_cons, List.length_nil, Nat.reduceAdd, Nat.reduceSub, Array.replicate_succ, Array.replicate_zero, List.push_toArray, List.append_toArray, List.nil_append, List.cons_append]
  clear hW hbox hbn
  gi_wp2
  gi_loopw [4] (fun i wr => ∃ j : Nat, i = .int .i64 ((8 * j : Nat) : Int) ∧ Hid (j = 0 ∨ 8 * (j - 1) < len) ∧ 8 * j ≤ len + 8 ∧ Boxed wr B 23 (.slice ao len cap) ∧ Boxed wr (B + 1) 3 (.int .i64 8) ∧ J ((List.range j).map (8 * ·)) wr)
    (fun i wr => 2000 - (intOf i).toNat)
  case atStart => exact ⟨0, rfl, .inl rfl, by omega, hb0, hb1, h0⟩
  case round =>
    obtain ⟨j, rfl, hj0, hj8, hb, hbn, hJ⟩ := hrel
    have hc0 := hb.cell
    have hc1 := hbn.cell
    obtain ⟨i, hij⟩ : ∃ i, i = 8 * j := ⟨_, rfl⟩
    rw [← hij] at hj8 ⊢
    have HIJ := Lib.hid hij
    clear hij
    by_cases hlt : i < len
    · obtain ⟨b, off, rfl⟩ := hao (by omega)
      obtain ⟨m, hm⟩ : ∃ m, m = mm len i := ⟨_, rfl⟩
      have hm1 : 1 ≤ m := by rw [hm]; unfold mm; omega
      have hm2 : i + m ≤ len := by rw [hm]; unfold mm; omega
      have hm8 : m ≤ 8 := by rw [hm]; unfold mm; omega
      have hcut : ckV (some ⟨b, off, none⟩) len i = .slice (some ⟨b, off + i * 5, none⟩) m m := by unfold ckV; rw [← hm, Option.map_some, Addr.add_lit]
      have hmin : min (8 : Int) ((len : Int) - (i : Int)) = (m : Int) := by rw [hm]; unfold mm; omega
      have hmin2 : min 8 (len - i) = m := by rw [hm]; rfl
      have hmin3 : min (8 : Int) ((len - i : Nat) : Int) = (m : Int) := by rw [hm]; unfold mm; omega
      have e9 : i + m - i = m := by omega
      have e10 : ((i : Int) + (m : Int)).toNat = i + m := by omega
      have hne : ¬ cap = i := by omega
      have HM := Lib.hid hm
      have HCUT := Lib.hid hcut
      clear hm hcut
      gi_wp2
      gi_quiet (fail)
      have hJY := hJT _ _ _ hJ ⟨nq, rfl⟩
      have hbY := boxed_drewC hb nq
      have hbnY := boxed_drewC hbn nq
      obtain ⟨Y, hYe⟩ : ∃ Y, Y = World.drewN wr nq := ⟨_, rfl⟩
      rw [← hYe] at hJY hbY hbnY ⊢
      clear hYe hc0 hc1 hb hbn hJ
      have hc0 := hbY.cell
      have hc1 := hbnY.cell
      obtain ⟨fn, tmps, assign, body, hy, hR⟩ := hY _ i Y hJY (by simp; have := HIJ.out; omega)
      rw [HCUT.out] at hy
      gi_wp2
      refine hR.mono ?_
      rintro e W3 (⟨rfl, hJ3, hk3⟩ | ⟨rfl, hJx3⟩)
      · have hb3 := hk3.2.1.trans hbY
        have hbn3 := hk3.2.2.trans hbnY
        have hc3 := Boxed.cell hb3
        have hcn3 := Boxed.cell hbn3
        have hJ4 : J ((List.range (j + 1)).map (8 * ·)) W3 := by rw [starts_succ, ← HIJ.out]; exact hJ3
        clear hJY hbY hbnY hy hR hJ3 hc0 hc1 hY
        have HJ4 := Lib.hid hJ4
        clear hJ4
        gi_wp2
        go_roundw
        case rel => exact ⟨j + 1, by rw [HIJ.out]; push_cast; rfl, .inr (by have := HIJ.out; omega), by have := HIJ.out; omega, hb3, hbn3, HJ4.out⟩
        case measure => have := HIJ.out; simp [intOf]; omega
      · gi_wp2
        refine bodyPost_ret (results_none rfl _ _ _) rfl ?_
        exact ⟨⟨_, rfl⟩, .inr ⟨_, trivial, hJx3⟩⟩
    · have hst : starts len = (List.range j).map (8 * ·) := by
        unfold starts
        have := hj0.out
        have := HIJ.out
        congr 2
        omega
      have HST := Lib.hid hst
      clear hst
      gi_wp2
      go_end0
      exact ⟨⟨_, rfl⟩, .inl ⟨_, HST.out.symm, hJ⟩⟩
end Go.Proofs.YtoagdmglchccnaaGreatDoor
