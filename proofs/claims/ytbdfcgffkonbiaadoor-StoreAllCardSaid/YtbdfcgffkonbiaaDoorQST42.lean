/- Stores: Undo. Written by wip/tools/gen13v.py. -/
import Derived.Test.YtbdfcgffkonbiaaDoorQST41
import Derived.Test.YtbdfcgffkonbiaaDoorQST29
import Derived.Test.YtbdfcgffkonbiaaDoorQST21
namespace Go.Proofs.YtbdfcgffkonbiaaDoor
open Go Go.RowKit
set_option linter.unusedVariables false
set_option linter.unusedSimpArgs false
theorem wpList_run {P : Program} {ops : Array Oper} {rest : List Oper} {o : Oper} {a : Act} {Q : Exit → Act → World → Prop} {w : World} (hgd : o.guard = none) (v : Value) (hr : (execOp a.eval o).run P w = .ok (.value v) w)
    (hK : wpList P ops Q rest (a.put o.dst v) w) : wpList P ops Q (o :: rest) a w := by
  refine wpList_plain hgd fun K hK' => ?_
  unfold Oper.wp
  rw [hr]
  exact hK' _ _ hK
theorem undo_door (n : Nat) (e a x : Int) (v0 : Value) (W : World) (tmps : Array Value) (h4 : tmps.getD 4 undef = .pointer (some ⟨n, 0, none⟩)) (h5 : tmps.getD 5 undef = .pointer (some ⟨n + 1, 0, none⟩))
    (q0 : W.heap[n]? = some (.cells #[v0] 57 (0, 0))) (q1 : W.heap[n + 1]? = some (.cells #[.int .i64 x] 30 (0, 0))) (R : Ending → World → Prop)
    (hR : ∀ W', Below n W W' → R (.returned (.tuple #[.slice none 0 0, .int .i64 e])) W') :
    Leaves Tryd.prog Tryd.f36 tmps R [{ target := .fn (.func 79) #[.pointer (some ⟨n, 0, none⟩), .pointer (some ⟨n + 1, 0, none⟩)], args := #[] }] (.panicking (faultC e a)) W := by
  refine leaves_cons (f := 79) (args := #[.pointer (some ⟨n, 0, none⟩), .pointer (some ⟨n + 1, 0, none⟩)]) (by simp) (by simp [go_sem]) ?_
  refine (undo1_catch n e a v0 x W q0 q1).mono ?_
  rintro en u' w'' ⟨rfl, rfl, r0, r1, g⟩
  show Leaves _ _ _ _ [] .returning _
  exact ⟨_, results_c2 rfl _ _ n (n + 1) _ _ h4 h5 (lv_edits r0) (lv_errno r1), hR _ g⟩
theorem undo_back (n : Nat) (v x : Value) (W : World) (tmps : Array Value) (h4 : tmps.getD 4 undef = .pointer (some ⟨n, 0, none⟩)) (h5 : tmps.getD 5 undef = .pointer (some ⟨n + 1, 0, none⟩))
    (q0 : W.heap[n]? = some (.cells #[v] 57 (0, 0))) (q1 : W.heap[n + 1]? = some (.cells #[x] 30 (0, 0))) (R : Ending → World → Prop)
    (hR : ∀ W', Below W.heap.size W W' → R (.returned (.tuple #[v, x])) W') :
    Leaves Tryd.prog Tryd.f36 tmps R [{ target := .fn (.func 79) #[.pointer (some ⟨n, 0, none⟩), .pointer (some ⟨n + 1, 0, none⟩)], args := #[] }] .returning W := by
  refine leaves_cons (f := 79) (args := #[.pointer (some ⟨n, 0, none⟩), .pointer (some ⟨n + 1, 0, none⟩)]) (by simp) (by simp [go_sem]) ?_
  refine (undo1_idle ⟨n, 0, none⟩ ⟨n + 1, 0, none⟩ W).mono ?_
  rintro en u' w'' ⟨rfl, rfl, g⟩
  show Leaves _ _ _ _ [] .returning _
  exact ⟨_, results_c2 rfl _ _ n (n + 1) _ _ h4 h5 (lv_edits ((g.block _ (lt_of_block q0)).trans q0)) (lv_errno ((g.block _ (lt_of_block q1)).trans q1)), hR _ g⟩
/-- The same ends; of a panic, what the door asks. -/
def PanQ (Q : Exit → Act → World → Prop) (p4 p5 : Value) (D : List Deferred) (X : List PanicEntry → World → Prop) : Exit → Act → World → Prop
  | .panic c, a, w => a.tmps.getD 4 undef = p4 ∧ a.tmps.getD 5 undef = p5 ∧ a.defers = D ∧ X c w
  | e, a, w => Q e a w
theorem wp_panQ {P : Program} {c : Code} {Q : Exit → Act → World → Prop} {a : Act} {w : World} {p4 p5 : Value} {D : List Deferred} {X : List PanicEntry → World → Prop}
    (hX : ∀ c a w, (a.tmps.getD 4 undef = p4 ∧ a.tmps.getD 5 undef = p5 ∧ a.defers = D ∧ X c w) → Q (.panic c) a w) (h : c.wp P (PanQ Q p4 p5 D X) a w) : c.wp P Q a w :=
  fun b k cs => let ⟨e, a', w', q, r⟩ := h b k cs; ⟨e, a', w', by cases e <;> first | exact q | exact hX _ _ _ q, r⟩
theorem panQ_put {Q : Exit → Act → World → Prop} {p4 p5 : Value} {D : List Deferred} {X : List PanicEntry → World → Prop} {d : Nat} (h4 : d ≠ 4) (h5 : d ≠ 5) (v : Value) : ∀ c a w, PanQ Q p4 p5 D X (.panic c) (a.put (some d) v) w → PanQ Q p4 p5 D X (.panic c) a w := by
  rintro c a w ⟨x1, x2, x3, x4⟩
  refine ⟨?_, ?_, x3, x4⟩
  · rw [← x1]; simp [Act.put, Array.getElem?_setIfInBounds_ne h4]
  · rw [← x2]; simp [Act.put, Array.getElem?_setIfInBounds_ne h5]
theorem edit_info : (Tryd.prog.info? 68).map (fun i => (i.zero, i.size, i.bytes)) = some (some (.agg #[.string ⟨#[]⟩, .int .i64 0, .int .i64 0, .string ⟨#[]⟩]), 4, 48) := by kernel_rfl
theorem edC_one (x : Ed) : ∀ u ∈ edC x, u.oneCell' = true := by intro u hu; simp [edC] at hu; rcases hu with rfl | rfl | rfl | rfl <;> rfl
theorem app_ed (w : World) (base : Nat) (v : Value) (L : List Ed) (own : w.ownsRow base 68 4 v L.length (L.flatMap edC)) (B : Nat) (x : Ed) (hB : w.heap[B]? = some (.cells #[.string (str x.key), .int .i64 x.v.k, .int .i64 x.v.i, .string (str x.v.s)] 68 (0, 0))) (hbase : base ≤ w.heap.size) (hL : L.length ≤ 4000) :
    ∃ v' w', (Builtin.append_ #[57, 57] 57 #[v, .slice (some ⟨B, 0, none⟩) 1 1]).run Tryd.prog w = .ok v' w' ∧ w'.ownsRow base 68 4 v' (L ++ [x]).length ((L ++ [x]).flatMap edC) ∧ w.grownBy w' v.ownBlock := by
  obtain ⟨i0, hi, hz0, hz1, hz2⟩ := info_parts edit_info
  obtain ⟨v', w', h1, h2, h3, -, -⟩ := run_append_own_at (P := Tryd.prog) w base 57 57 68 i0 _ 4 48 Tryd.underlying57 hi hz0 hz1 hz2 rfl (by decide) v L.length (L.flatMap edC) own ⟨B, 0, none⟩ 1 1 (edC x) rfl (fun j u hj => by
    rw [Addr.add_lit, Nat.zero_add, block_cell hB j]
    simpa [edC] using hj) (edC_one x) (by unfold maxLen; omega) (by omega) hbase
  refine ⟨v', w', h1, ?_, h3⟩
  rw [List.length_append, List.flatMap_append]
  simpa using h2
def TyS (t : TypeId → Prop) (wr W : World) : Prop := (∀ k, k < wr.heap.size → (∀ C ty fr, wr.heap[k]? = some (.cells C ty fr) → ¬ t ty) → W.heap[k]? = wr.heap[k]?) ∧ wr.heap.size ≤ W.heap.size
theorem TyS.refl (t : TypeId → Prop) (w : World) : TyS t w w := ⟨fun _ _ _ => rfl, Nat.le_refl _⟩
theorem TyS.below {t : TypeId → Prop} {wr W W' : World} (h : TyS t wr W) (g : Below W.heap.size W W') : TyS t wr W' := ⟨fun k hk hn => (g.block k (Nat.lt_of_lt_of_le hk h.2)).trans (h.1 k hk hn), Nat.le_trans h.2 g.size⟩
theorem TyS.grown {t : TypeId → Prop} {e : TypeId} {wr W W' : World} (h : TyS t wr W) {b k n : Nat} {u : Value} {xs : List Value} (ho : W.ownsRow b e k u n xs) (he : t e) (g : W.grownBy W' u.ownBlock) : TyS t wr W' :=
  ⟨fun j hj hn => (g.block j (Nat.lt_of_lt_of_le hj h.2) (by
    rcases ho.2 with h1 | ⟨q, cap, cur, hv, _, hq, _⟩
    · rw [h1.1]; simp [Value.ownBlock]
    · rw [hv]
      intro e'
      simp [Value.ownBlock] at e'
      subst e'
      exact hn _ _ _ ((h.1 j hj hn).symm.trans hq) he)).trans (h.1 j hj hn), Nat.le_trans h.2 g.size⟩
theorem ld_head {t : TypeId → Prop} {w W : World} {b o n c : Nat} {x : It} {A : List It} (h : LiveT t w (.slice (some ⟨b, o, none⟩) n c) (x :: A)) (hS : TyS t w W) :
    W.cell? ⟨b, o, none⟩ = some (.string (str x.key)) ∧ W.cell? ⟨b, o + 1, none⟩ = some (.int .i64 x.v.k) ∧ W.cell? ⟨b, o + 2, none⟩ = some (.int .i64 x.v.i) ∧ W.cell? ⟨b, o + 3, none⟩ = some (.string (str x.v.s)) := by
  obtain ⟨b', o', he, _, z0, z1, z2, z3, _⟩ := it_head (h W hS.1 hS.2)
  injection he with he
  injection he with e1 e2 _
  subst e1
  subst e2
  exact ⟨z0, z1, z2, z3⟩
def tyE (t : TypeId) : Prop := t = 68 ∨ t = 57
structure Us (n : Nat) (w : World) (na nb : Nat) (aa : Option Addr) (ca : Nat) (ab : Option Addr) (cb : Nat) (A B : List It) (acc : List Ed) (u : Value) (wr : World) : Prop where
  la : A.length = na
  lb : B.length = nb
  ra : LiveT tyE wr (.slice aa na ca) A
  rb : LiveT tyE wr (.slice ab nb cb) B
  q4 : wr.heap[n + 2]? = some (.cells #[u] 57 (0, 0))
  q5 : wr.heap[n + 3]? = some (.cells #[.int .i64 0] 30 (0, 0))
  own : wr.ownsRow (n + 4) 68 4 u acc.length (acc.flatMap edC)
  bel : Below n w wr
theorem Us.ta {n : Nat} {w : World} {na nb : Nat} {aa : Option Addr} {ca : Nat} {ab : Option Addr} {cb : Nat} {x : It} {A B : List It} {acc : List Ed} {u : Value} {wr : World} (h : Us n w na nb aa ca ab cb (x :: A) B acc u wr) : Us n w (na - 1) nb (slT aa ca) (ca - 1) ab cb A B acc u wr :=
  ⟨by have := h.la; simp at this; omega, h.lb, h.ra.tail h.la, h.rb, h.q4, h.q5, h.own, h.bel⟩
theorem Us.tb {n : Nat} {w : World} {na nb : Nat} {aa : Option Addr} {ca : Nat} {ab : Option Addr} {cb : Nat} {x : It} {A B : List It} {acc : List Ed} {u : Value} {wr : World} (h : Us n w na nb aa ca ab cb A (x :: B) acc u wr) : Us n w na (nb - 1) aa ca (slT ab cb) (cb - 1) A B acc u wr :=
  ⟨h.la, by have := h.lb; simp at this; omega, h.ra, h.rb.tail h.lb, h.q4, h.q5, h.own, h.bel⟩
theorem Us.drew {n : Nat} {w : World} {na nb : Nat} {aa : Option Addr} {ca : Nat} {ab : Option Addr} {cb : Nat} {A B : List It} {acc : List Ed} {u : Value} {wr : World} (h : Us n w na nb aa ca ab cb A B acc u wr) : Us n w na nb aa ca ab cb A B acc u wr.drew :=
  ⟨h.la, h.lb, h.ra.drew, h.rb.drew, h.q4, h.q5, h.own, h.bel.drew⟩
theorem us_app {n : Nat} {w : World} {na nb : Nat} {aa : Option Addr} {ca : Nat} {ab : Option Addr} {cb : Nat} {A B : List It} {acc : List Ed} {u : Value} {wr WA W9 : World} (h : Us n w na nb aa ca ab cb A B acc u wr) (bA : Below wr.heap.size wr WA) (hn : n ≤ w.heap.size) {x : Ed} {v9 : Value}
    (own9 : W9.ownsRow (n + 4) 68 4 v9 (acc ++ [x]).length ((acc ++ [x]).flatMap edC)) (gr : WA.grownBy W9 u.ownBlock) :
    W9.heap[n + 2]? = some (.cells #[u] 57 (0, 0)) ∧ LiveT tyE W9 (.slice aa na ca) A ∧ LiveT tyE W9 (.slice ab nb cb) B ∧ Us n w na nb aa ca ab cb A B (acc ++ [x]) v9 (W9.setCell ⟨n + 2, 0, none⟩ v9) := by
  have ownA := own_keep h.own bA
  have lA := (h.ra.below bA).grown ownA (.inl rfl) gr
  have lB := (h.rb.below bA).grown ownA (.inl rfl) gr
  have ne : ∀ k, k < n + 4 → u.ownBlock ≠ some k := by
    intro k hk e
    rcases ownA.2 with h1 | ⟨q, cap, cur, hv, hb, _⟩
    · rw [h1.1] at e; simp [Value.ownBlock] at e
    · rw [hv] at e; simp [Value.ownBlock] at e; omega
  have l5 := lt_of_block h.q5
  have q4 : W9.heap[n + 2]? = some (.cells #[u] 57 (0, 0)) := (gr.block _ (by have := bA.size; omega) (fun e => ne _ (by omega) e.symm)).trans ((bA.block _ (by omega)).trans h.q4)
  have q5 : W9.heap[n + 3]? = some (.cells #[.int .i64 0] 30 (0, 0)) := (gr.block _ (by have := bA.size; omega) (fun e => ne _ (by omega) e.symm)).trans ((bA.block _ (by omega)).trans h.q5)
  refine ⟨q4, lA, lB, h.la, h.lb, lA.cell q4 (.inr rfl), lB.cell q4 (.inr rfl), set_at (i := 0) (u := v9) q4, (set_old (by omega)).trans q5, own_moved own9 fun g hg => set_old (by omega), ?_⟩
  exact (grown_below (h.bel.trans (bA.mono (Nat.le_trans hn h.bel.size))) hn (own_base ownA (by omega)) gr).setCell (p := ⟨n + 2, 0, none⟩) (show n ≤ n + 2 by omega) v9
theorem valE_neq (x y : V7.V) (w : World) : (binOp .neq 43 (.agg #[.int .i64 x.k, .int .i64 x.i, .string (str x.s)]) (.agg #[.int .i64 y.k, .int .i64 y.i, .string (str y.s)])).run Tryd.prog w = .ok (.bool (!vB x y)) w := by
  obtain ⟨b, c, d⟩ := x
  obtain ⟨b', c', d'⟩ := y
  unfold vB
  go_simp
  by_cases h2 : b = b'
  · by_cases h3 : c = c'
    · by_cases h4 : d = d'
      · simp [h2, h3, h4, str_tl]
      · simp [h2, h3, h4, str_tl]
    · simp [h2, h3, str_tl]
  · simp [h2, str_tl]
theorem valE_guard : Tryd.prog.eqGuardType Tryd.prog.depth 43 = false := by kernel_rfl
theorem valE_neq_op (op : Oper) (a : Act) (x y : Operand) (T' : TypeId) (p q : V7.V) (r : Bool) (hr : vB p q = !r) (ho : op.op = .binOp .neq 43 x y T') (hx : a.eval x = .agg #[.int .i64 p.k, .int .i64 p.i, .string (str p.s)]) (hy : a.eval y = .agg #[.int .i64 q.k, .int .i64 q.i, .string (str q.s)]) (w : World) : (execOp a.eval op).run Tryd.prog w = .ok (.value (.bool r)) w := by
  have h := valE_neq p q w
  rw [hr, Bool.not_not] at h
  have g := valE_guard
  have e : (eqGuard .neq 43 x y (.agg #[.int .i64 p.k, .int .i64 p.i, .string (str p.s)]) (.agg #[.int .i64 q.k, .int .i64 q.i, .string (str q.s)])).run Tryd.prog w = .ok () w := run_eqGuard_agg (hm := g) ..
  simp only [execOp, ho, hx, hy, Sem.run_bind, e, h, Result.andThen_ok, Sem.run_pure]
def undoE (s t : St) : Nat := if mayS s = true ∧ mayS t = true then 0 else 1
def undoS (s t : St) : List Ed := if mayS s = true ∧ mayS t = true then undoM (allS s.lv) (allS t.lv) else []
def UndoZ (w : World) (s t : St) (e : Ending) (w' : World) : Prop := ∃ v, e = .returned (.tuple #[v, .int .i64 (undoE s t : Int)]) ∧ w'.ownsRow w.heap.size 68 4 v (undoS s t).length ((undoS s t).flatMap edC) ∧ Below w.heap.size w w'
theorem UndoZ.no {w W : World} {s t : St} (h : ¬ (mayS s = true ∧ mayS t = true)) (g : Below w.heap.size w W) : UndoZ w s t (.returned (.tuple #[.slice none 0 0, .int .i64 1])) W := by
  unfold UndoZ undoE undoS
  rw [if_neg h, if_neg h]
  exact ⟨_, rfl, World.ownsRow_nil _ _ _ _, g⟩
theorem undoM_len : ∀ (n : Nat) (a b : List It), a.length + b.length ≤ n → (undoM a b).length ≤ a.length + b.length
  | n, [], [], _ => by rw [um_nil]; simp
  | n + 1, x :: a, [], h => by
    rw [um_a0]; have := undoM_len n a [] (by simp at h ⊢; omega); simp at this ⊢; omega
  | n + 1, [], y :: b, h => by
    rw [um_b0]; have := undoM_len n [] b (by simp at h ⊢; omega); simp at this ⊢; omega
  | n + 1, x :: a, y :: b, h => by
    simp at h
    cases h1 : ltB x.key y.key with
    | true => rw [um_a h1]; have := undoM_len n a (y :: b) (by simp; omega); simp at this ⊢; omega
    | false =>
      cases h2 : ltB y.key x.key with
      | true => rw [um_b h1 h2]; have := undoM_len n (x :: a) b (by simp; omega); simp at this ⊢; omega
      | false =>
        cases h3 : vB x.v y.v with
        | true => rw [um_eq h1 h2 h3]; have := undoM_len n a b (by omega); simp at this ⊢; omega
        | false => rw [um_ne h1 h2 h3]; have := undoM_len n a b (by omega); simp at this ⊢; omega
  | 0, x :: a, _, h => by simp at h
  | 0, [], y :: b, h => by simp at h
set_option maxRecDepth 100000 in
set_option maxHeartbeats 4000000 in
theorem undo13_any (ca cb : Array Value) (s t : St) (w : World) (tab : TabAt w) (ha : RdS w ca s) (hb : RdS w cb t) (hsz : SzT s.lv) (hsz2 : SzT t.lv) (hwf : WfT s.lv) (hwf2 : WfT t.lv) (h100 : ∀ b, b < 16 → (s.lv b).length ≤ 100) (h101 : ∀ b, b < 16 → (t.lv b).length ≤ 100) :
    Calls Tryd.prog 36 #[.agg ca, .agg cb] w (UndoZ w s t) := by
  have hmf : ∀ (fn : Fn) (first cap : Array Value) (w : World), (Instr.makeFunc fn first cap).run Tryd.prog w = .ok (.func fn first cap) w := fun _ _ _ _ => rfl
  have hi1 := infoS ha.size
  have hi2 := infoS hb.size
  obtain ⟨q1, q2, q3, q4, z4⟩ := allocs4 w (.cells ca 28) (.cells cb 28) (.cells #[.slice none 0 0] 57) (.cells #[.int .i64 0] 30)
  have bel : Below w.heap.size w ((((w.alloc (.cells ca 28)).alloc (.cells cb 28)).alloc (.cells #[.slice none 0 0] 57)).alloc (.cells #[.int .i64 0] 30)) := ((((Below.refl _ w).alloc (Nat.le_refl _) _).alloc (by simp) _).alloc (by simp; omega) _).alloc (by simp; omega) _
  have AA0 := Lib.hid (fun W (g : Below w.heap.size w W) => all13_any ca s W (tab.below g) (ha.below g (Nat.le_refl _)) hsz hwf h100)
  have AB0 := Lib.hid (fun W (g : Below w.heap.size w W) => all13_any cb t W (tab.below g) (hb.below g (Nat.le_refl _)) hsz2 hwf2 h101)
  obtain ⟨Z, hZ⟩ : ∃ Z, Z = UndoZ w s t := ⟨_, rfl⟩
  rw [← hZ]
  have HZ := Lib.hid hZ
  obtain ⟨W0, hW0⟩ : ∃ W, W = (((w.alloc (.cells ca 28)).alloc (.cells cb 28)).alloc (.cells #[.slice none 0 0] 57)).alloc (.cells #[.int .i64 0] 30) := ⟨_, rfl⟩
  rw [← hW0] at q1 q2 q3 q4 z4 bel
  clear hZ ha hb hsz hsz2 hwf hwf2 h100 h101 tab
  go_enter_defers Tryd.func36, Tryd.ntmps36
  go_wp2_with fail
  rw [← hW0]
  clear hW0
  obtain ⟨NB, hNB⟩ : ∃ P : Prop, P = (¬ (mayS s = true ∧ mayS t = true)) := ⟨_, rfl⟩
  have HNB := Lib.hid hNB
  clear hNB
  refine wp_panQ (p4 := .pointer (some ⟨w.heap.size + 1 + 1, 0, none⟩)) (p5 := .pointer (some ⟨w.heap.size + 1 + 1 + 1, 0, none⟩)) (D := [{ target := .fn (.func 79) #[.pointer (some ⟨w.heap.size + 1 + 1, 0, none⟩), .pointer (some ⟨w.heap.size + 1 + 1 + 1, 0, none⟩)], args := #[] }]) (X := fun c W => c = faultC 1 0 ∧ NB ∧ W.heap[w.heap.size + 2]? = some (.cells #[.slice none 0 0] 57 (0, 0)) ∧ W.heap[w.heap.size + 3]? = some (.cells #[.int .i64 0] 30 (0, 0)) ∧ Below w.heap.size w W) ?_ ?_
  · rintro c a W ⟨x1, x2, x3, rfl, hno, r3, r4, bX⟩
    show Leaves Tryd.prog Tryd.f36 a.tmps Z a.defers (.panicking (faultC 1 0)) W
    rw [x3]
    refine undo_door (w.heap.size + 2) 1 0 0 _ W a.tmps x1 x2 r3 r4 _ fun W' g' => ?_
    rw [HZ.out]
    exact UndoZ.no (by rw [← HNB.out]; exact hno) (bX.trans (g'.mono (by omega)))
  cases hm1 : mayS s with
  | false =>
    have HN := Lib.hid (show NB by rw [HNB.out, hm1]; simp)
    have HM1 := Lib.hid hm1
    clear hm1
    refine g_start (by kernel_rfl) ?_
    refine g_take (i := 0) (d := (some 9)) (v := ?_) rfl rfl (by kernel_rfl) (panQ_put (by decide) (by decide) _) (by rfl) (fun w' hb' => ?_) ?_
    rotate_left
    · (refine load_row_op _ _ (.tmp 2) ?_ ?_ ((hb'.block _ (lt_of_block q1)).trans q1) Tryd.underlying28 ?_ hi1 <;> rfl); (try go_simp); (try with_reducible rfl)
    try simp only [Act.put, List.setIfInBounds_toArray, List.set_cons_zero, List.set_cons_succ]
    refine g_take (i := 2) (d := (some 11)) (v := ?_) rfl rfl (by kernel_rfl) (panQ_put (by decide) (by decide) _) (by rfl) (fun w' hb' => ?_) ?_
    rotate_left
    · (refine load_row_op _ _ (.tmp 3) ?_ ?_ ((hb'.block _ (lt_of_block q2)).trans q2) Tryd.underlying28 ?_ hi2 <;> rfl); (try go_simp); (try with_reducible rfl)
    try simp only [Act.put, List.setIfInBounds_toArray, List.set_cons_zero, List.set_cons_succ]
    refine g_run (i := 1) rfl (by kernel_rfl) (by rfl) (fun K hK => ?_)
    go_simp
    refine (AA0.out _ (bel.drew)).mono ?_
    intro e wP hP
    unfold AllZ at hP
    rw [HM1.out, if_neg (by decide)] at hP
    obtain ⟨rfl, g⟩ := hP
    exact ⟨rfl, rfl, rfl, rfl, HN.out, (g.block _ (lt_of_block q3)).trans q3, (g.block _ (lt_of_block q4)).trans q4, chain (bel.drew) g⟩

  | true =>
    have HM1 := Lib.hid hm1
    clear hm1
    cases hm2 : mayS t with
    | false =>
      have HN := Lib.hid (show NB by rw [HNB.out, hm2]; simp)
      have HM2 := Lib.hid hm2
      clear hm2
      refine g_start (by kernel_rfl) ?_
      refine g_take (i := 0) (d := (some 9)) (v := ?_) rfl rfl (by kernel_rfl) (panQ_put (by decide) (by decide) _) (by rfl) (fun w' hb' => ?_) ?_
      rotate_left
      · (refine load_row_op _ _ (.tmp 2) ?_ ?_ ((hb'.block _ (lt_of_block q1)).trans q1) Tryd.underlying28 ?_ hi1 <;> rfl); (try go_simp); (try with_reducible rfl)
      try simp only [Act.put, List.setIfInBounds_toArray, List.set_cons_zero, List.set_cons_succ]
      refine g_take (i := 2) (d := (some 11)) (v := ?_) rfl rfl (by kernel_rfl) (panQ_put (by decide) (by decide) _) (by rfl) (fun w' hb' => ?_) ?_
      rotate_left
      · (refine load_row_op _ _ (.tmp 3) ?_ ?_ ((hb'.block _ (lt_of_block q2)).trans q2) Tryd.underlying28 ?_ hi2 <;> rfl); (try go_simp); (try with_reducible rfl)
      try simp only [Act.put, List.setIfInBounds_toArray, List.set_cons_zero, List.set_cons_succ]
      refine g_run (i := 1) rfl (by kernel_rfl) (by rfl) (fun K hK => ?_)
      go_simp
      refine (AA0.out _ (bel.drew)).mono ?_
      intro e w1 hP
      unfold AllZ at hP
      rw [HM1.out, if_pos rfl] at hP
      obtain ⟨va, rfl, own1, g⟩ := hP
      replace q1 := (g.block _ (lt_of_block q1)).trans q1
      replace q2 := (g.block _ (lt_of_block q2)).trans q2
      replace q3 := (g.block _ (lt_of_block q3)).trans q3
      replace q4 := (g.block _ (lt_of_block q4)).trans q4
      replace bel := chain (bel.drew) g
      refine hK _ _ ⟨g, ?_⟩
      clear hK K g
      try simp only [Act.put, List.setIfInBounds_toArray, List.set_cons_zero, List.set_cons_succ]
      refine g_run (i := 3) rfl (by kernel_rfl) (by rfl) (fun K hK => ?_)
      go_simp
      refine (AB0.out _ bel).mono ?_
      intro e wP hP
      unfold AllZ at hP
      rw [HM2.out, if_neg (by decide)] at hP
      obtain ⟨rfl, g⟩ := hP
      exact ⟨rfl, rfl, rfl, rfl, HN.out, (g.block _ (lt_of_block q3)).trans q3, (g.block _ (lt_of_block q4)).trans q4, chain bel g⟩

    | true =>
      have HM2 := Lib.hid hm2
      clear hm2
      refine g_start (by kernel_rfl) ?_
      refine g_take (i := 0) (d := (some 9)) (v := ?_) rfl rfl (by kernel_rfl) (panQ_put (by decide) (by decide) _) (by rfl) (fun w' hb' => ?_) ?_
      rotate_left
      · (refine load_row_op _ _ (.tmp 2) ?_ ?_ ((hb'.block _ (lt_of_block q1)).trans q1) Tryd.underlying28 ?_ hi1 <;> rfl); (try go_simp); (try with_reducible rfl)
      try simp only [Act.put, List.setIfInBounds_toArray, List.set_cons_zero, List.set_cons_succ]
      refine g_take (i := 2) (d := (some 11)) (v := ?_) rfl rfl (by kernel_rfl) (panQ_put (by decide) (by decide) _) (by rfl) (fun w' hb' => ?_) ?_
      rotate_left
      · (refine load_row_op _ _ (.tmp 3) ?_ ?_ ((hb'.block _ (lt_of_block q2)).trans q2) Tryd.underlying28 ?_ hi2 <;> rfl); (try go_simp); (try with_reducible rfl)
      try simp only [Act.put, List.setIfInBounds_toArray, List.set_cons_zero, List.set_cons_succ]
      refine g_run (i := 1) rfl (by kernel_rfl) (by rfl) (fun K hK => ?_)
      go_simp
      refine (AA0.out _ (bel.drew)).mono ?_
      intro e w1 hP
      unfold AllZ at hP
      rw [HM1.out, if_pos rfl] at hP
      obtain ⟨va, rfl, own1, g⟩ := hP
      replace q1 := (g.block _ (lt_of_block q1)).trans q1
      replace q2 := (g.block _ (lt_of_block q2)).trans q2
      replace q3 := (g.block _ (lt_of_block q3)).trans q3
      replace q4 := (g.block _ (lt_of_block q4)).trans q4
      replace bel := chain (bel.drew) g
      refine hK _ _ ⟨g, ?_⟩
      clear hK K g
      try simp only [Act.put, List.setIfInBounds_toArray, List.set_cons_zero, List.set_cons_succ]
      refine g_run (i := 3) rfl (by kernel_rfl) (by rfl) (fun K hK => ?_)
      go_simp
      refine (AB0.out _ bel).mono ?_
      intro e w2 hP
      unfold AllZ at hP
      rw [HM2.out, if_pos rfl] at hP
      obtain ⟨vb, rfl, own2, g⟩ := hP
      replace q1 := (g.block _ (lt_of_block q1)).trans q1
      replace q2 := (g.block _ (lt_of_block q2)).trans q2
      replace q3 := (g.block _ (lt_of_block q3)).trans q3
      replace q4 := (g.block _ (lt_of_block q4)).trans q4
      replace own1 := own_keep own1 g
      replace bel := chain bel g
      refine hK _ _ ⟨g, ?_⟩
      clear hK K g
      try simp only [Act.put, List.setIfInBounds_toArray, List.set_cons_zero, List.set_cons_succ]
      refine g_take (i := 4) (d := (some 6)) (v := ?_) rfl rfl (by kernel_rfl) (panQ_put (by decide) (by decide) _) (by rfl) (fun w' hb' => ?_) ?_
      rotate_left
      · (try go_simp); (try with_reducible rfl)
      try simp only [Act.put, List.setIfInBounds_toArray, List.set_cons_zero, List.set_cons_succ]
      refine g_take (i := 5) (d := (some 7)) (v := ?_) rfl rfl (by kernel_rfl) (panQ_put (by decide) (by decide) _) (by rfl) (fun w' hb' => ?_) ?_
      rotate_left
      · (try go_simp); (try with_reducible rfl)
      try simp only [Act.put, List.setIfInBounds_toArray, List.set_cons_zero, List.set_cons_succ]
      refine g_done (by kernel_rfl) ?_

      show Exit.then _ (bodyPostD Tryd.prog Tryd.f36 Z) Exit.normal _ _
      have LA := Lib.hid (own_live own1 (t := tyE) (by rintro (h | h) <;> cases h))
      have LB := Lib.hid (own_live own2 (t := tyE) (by rintro (h | h) <;> cases h))
      obtain ⟨aa0, n0, ca0, rfl⟩ := own_slice own1
      obtain ⟨ab0, m0, cb0, rfl⟩ := own_slice own2
      have hn0 := own_count own1
      have hm0 := own_count own2
      obtain ⟨UL, hUL⟩ : ∃ L, L = undoM (allS s.lv) (allS t.lv) := ⟨_, rfl⟩
      have HUL := Lib.hid hUL
      have US0 := Lib.hid (show Us w.heap.size w n0 m0 aa0 ca0 ab0 cb0 (allS s.lv) (allS t.lv) [] (.slice none 0 0) w2 from ⟨hn0.symm, hm0.symm, LA.out, LB.out, q3, q4, World.ownsRow_nil _ _ _ _, bel⟩)
      have HL0 := Lib.hid (show ([] : List Ed).length + n0 + m0 ≤ 2048 by have h1 := allS_len (mayS_t HM1.out); have h2 := allS_len (mayS_t HM2.out); simp; omega)
      have HE0 := Lib.hid (show [] ++ undoM (allS s.lv) (allS t.lv) = UL by rw [hUL]; rfl)
      clear hUL hn0 hm0 own1 own2 LA LB q1 q2 q3 q4 bel
      go_wp2_with fail
      go_loopw [6, 7] (fun a b wr => ∃ (na nb ca cb : Nat) (aa ab : Option Addr), a = .slice aa na ca ∧ b = .slice ab nb cb ∧ ∃ (A B : List It) (acc : List Ed) (u : Value), Hid (Us w.heap.size w na nb aa ca ab cb A B acc u wr) ∧ Hid (acc ++ undoM A B = UL) ∧ Hid (acc.length + na + nb ≤ 2048)) (fun a b _ => lenV a + lenV b)
      case atStart => exact ⟨_, _, _, _, _, _, rfl, rfl, _, _, _, _, US0, HE0, HL0⟩
      case round =>
        clear US0 HL0 HE0
        obtain ⟨na, nb, ca, cb, aa, ab, rfl, rfl, A, B, acc, uu, US, HE, HL⟩ := hrel
        rcases A with - | ⟨xa, A⟩
        · rcases B with - | ⟨xb, B⟩
          · obtain ⟨uo, un, uc, rfl⟩ := own_slice US.out.own
            have hw : IntKind.i64.wrap ((na : Int) + (nb : Int)) = 0 := by rw [IntKind.wrap_i64]; have h1 := US.out.la; have h2 := US.out.lb; simp at h1 h2; omega
            have HU := Lib.hid (show acc = UL by have h := HE.out; rw [um_nil] at h; simpa using h)
            have c4 := block_cell US.out.q4 0
            have c5 := block_cell US.out.q5 0
            have f4 := fun i => block_frozen US.out.q4 i
            have f5 := fun i => block_frozen US.out.q5 i
            go_wp2_with fail
            have r0 : ((wr.setCell ⟨w.heap.size + 1 + 1, 0, none⟩ (.slice uo un uc)).setCell ⟨w.heap.size + 1 + 1 + 1, 0, none⟩ (.int .i64 0)).heap[w.heap.size + 2]? = some (.cells #[.slice uo un uc] 57 (0, 0)) := (set_old (by omega)).trans (set_at (i := 0) (u := .slice uo un uc) US.out.q4)
            have r1 : ((wr.setCell ⟨w.heap.size + 1 + 1, 0, none⟩ (.slice uo un uc)).setCell ⟨w.heap.size + 1 + 1 + 1, 0, none⟩ (.int .i64 0)).heap[w.heap.size + 3]? = some (.cells #[.int .i64 0] 30 (0, 0)) := set_at (i := 0) (u := .int .i64 0) ((set_old (by omega)).trans US.out.q5)
            refine undo_back (w.heap.size + 2) _ _ _ _ rfl rfl r0 r1 _ fun W' g' => ?_
            rw [HZ.out]
            have hy : mayS s = true ∧ mayS t = true := ⟨HM1.out, HM2.out⟩
            unfold UndoZ undoE undoS
            rw [if_pos hy, if_pos hy, ← HUL.out, ← HU.out]
            refine ⟨_, rfl, ?_, ?_⟩
            · exact own_base (own_keep (own_moved2 US.out.own (w' := (wr.setCell ⟨w.heap.size + 1 + 1, 0, none⟩ (.slice uo un uc)).setCell ⟨w.heap.size + 1 + 1 + 1, 0, none⟩ (.int .i64 0)) (fun g h1 h2 => (set_old (by omega)).trans (set_old (by omega)))) g') (Nat.le_add_right _ 4)
            · exact chain ((US.out.bel.setCell (p := ⟨w.heap.size + 1 + 1, 0, none⟩) (by show w.heap.size ≤ w.heap.size + 1 + 1; omega) _).setCell (p := ⟨w.heap.size + 1 + 1 + 1, 0, none⟩) (by show w.heap.size ≤ w.heap.size + 1 + 1 + 1; omega) _) g'
          · have hnb : 0 < nb := by have h2 := US.out.lb; simp at h2; omega
            obtain ⟨bb, ob, rfl, hbb, b0, b1, b2, b3, -, hcb, -⟩ := it_head US.out.rb.rd
            obtain ⟨T, hT⟩ : ∃ T : Int, T = (na : Int) + (nb : Int) := ⟨_, rfl⟩
            have hw : IntKind.i64.wrap ((na : Int) + (nb : Int)) = T := by rw [IntKind.wrap_i64]; have := HL.out; omega
            have tT : decide (0 < T) = true := decide_eq_true (by omega)
            have tb0 : ((nb : Int) == 0) = false := beq_eq_false_iff_ne.2 (by omega)
            have ta0 : ((na : Int) == 0) = true := by have h1 := US.out.la; simp at h1; rw [← h1]; rfl
            have ta1 : decide (0 < (na : Int)) = false := decide_eq_false (by have h1 := US.out.la; simp at h1; omega)
            have ta2 : decide (0 < na) = false := decide_eq_false (by have h1 := US.out.la; simp at h1; omega)
            have pb : (0 : Int) < (nb : Int) := by omega
            have hl4 := lt_of_block US.out.q4
            have hl5 := lt_of_block US.out.q5
            clear hT
            go_wp2_with fail
            refine wp_noP ?_
            refine g_start (by kernel_rfl) ?_
            refine g_take (i := 0) (d := (some 45)) (v := ?_) rfl rfl (by kernel_rfl) (fun _ _ _ h => h) (by rfl) (fun w' hb' => ?_) ?_
            rotate_left
            · (try go_simp); (try with_reducible rfl)
            try simp only [Act.put, List.setIfInBounds_toArray, List.set_cons_zero, List.set_cons_succ]
            refine g_take (i := 1) (d := (some 46)) (v := ?_) rfl rfl (by kernel_rfl) (fun _ _ _ h => h) (by rfl) (fun w' hb' => ?_) ?_
            rotate_left
            · (try go_simp); (try with_reducible rfl)
            try simp only [Act.put, List.setIfInBounds_toArray, List.set_cons_zero, List.set_cons_succ]
            refine g_take (i := 2) (d := (some 47)) (v := ?_) rfl rfl (by kernel_rfl) (fun _ _ _ h => h) (by rfl) (fun w' hb' => ?_) ?_
            rotate_left
            · (try go_simp); (try with_reducible rfl)
            try simp only [Act.put, List.setIfInBounds_toArray, List.set_cons_zero, List.set_cons_succ]
            refine g_take (i := 3) (d := (some 48)) (v := ?_) rfl rfl (by kernel_rfl) (fun _ _ _ h => h) (by rfl) (fun w' hb' => ?_) ?_
            rotate_left
            · (try go_simp); (try with_reducible rfl)
            try simp only [Act.put, List.setIfInBounds_toArray, List.set_cons_zero, List.set_cons_succ]
            refine g_take (i := 4) (d := (some 49)) (v := ?_) rfl rfl (by kernel_rfl) (fun _ _ _ h => h) (by rfl) (fun w' hb' => ?_) ?_
            rotate_left
            · (try go_simp); (try with_reducible rfl)
            try simp only [Act.put, List.setIfInBounds_toArray, List.set_cons_zero, List.set_cons_succ]
            refine g_take (i := 5) (d := (some 50)) (v := ?_) rfl rfl (by kernel_rfl) (fun _ _ _ h => h) (by rfl) (fun w' hb' => ?_) ?_
            rotate_left
            · (try go_simp); (try with_reducible rfl)
            try simp only [Act.put, List.setIfInBounds_toArray, List.set_cons_zero, List.set_cons_succ]
            refine g_take (i := 6) (d := (some 51)) (v := ?_) rfl rfl (by kernel_rfl) (fun _ _ _ h => h) (by rfl) (fun w' hb' => ?_) ?_
            rotate_left
            · (try go_simp); (try with_reducible rfl)
            try simp only [Act.put, List.setIfInBounds_toArray, List.set_cons_zero, List.set_cons_succ]
            refine g_take (i := 7) (d := (some 52)) (v := ?_) rfl rfl (by kernel_rfl) (fun _ _ _ h => h) (by rfl) (fun w' hb' => ?_) ?_
            rotate_left
            · (try go_simp); (try with_reducible rfl)
            try simp only [Act.put, List.setIfInBounds_toArray, List.set_cons_zero, List.set_cons_succ]
            refine g_skip (i := 8) (d := (some 53)) rfl rfl (by kernel_rfl) (fun _ _ _ h => h) (by rfl) ?_
            try simp only [Act.put, List.setIfInBounds_toArray, List.set_cons_zero, List.set_cons_succ]
            refine g_skip (i := 9) (d := (some 54)) rfl rfl (by kernel_rfl) (fun _ _ _ h => h) (by rfl) ?_
            try simp only [Act.put, List.setIfInBounds_toArray, List.set_cons_zero, List.set_cons_succ]
            refine g_skip (i := 10) (d := (some 55)) rfl rfl (by kernel_rfl) (fun _ _ _ h => h) (by rfl) ?_
            try simp only [Act.put, List.setIfInBounds_toArray, List.set_cons_zero, List.set_cons_succ]
            refine g_skip (i := 11) (d := (some 56)) rfl rfl (by kernel_rfl) (fun _ _ _ h => h) (by rfl) ?_
            try simp only [Act.put, List.setIfInBounds_toArray, List.set_cons_zero, List.set_cons_succ]
            refine g_skip (i := 12) (d := (some 57)) rfl rfl (by kernel_rfl) (fun _ _ _ h => h) (by rfl) ?_
            try simp only [Act.put, List.setIfInBounds_toArray, List.set_cons_zero, List.set_cons_succ]
            refine g_skip (i := 13) (d := (some 58)) rfl rfl (by kernel_rfl) (fun _ _ _ h => h) (by rfl) ?_
            try simp only [Act.put, List.setIfInBounds_toArray, List.set_cons_zero, List.set_cons_succ]
            refine g_skip (i := 14) (d := (some 59)) rfl rfl (by kernel_rfl) (fun _ _ _ h => h) (by rfl) ?_
            try simp only [Act.put, List.setIfInBounds_toArray, List.set_cons_zero, List.set_cons_succ]
            refine g_skip (i := 15) (d := (some 60)) rfl rfl (by kernel_rfl) (fun _ _ _ h => h) (by rfl) ?_
            try simp only [Act.put, List.setIfInBounds_toArray, List.set_cons_zero, List.set_cons_succ]
            refine g_skip (i := 16) (d := (some 61)) rfl rfl (by kernel_rfl) (fun _ _ _ h => h) (by rfl) ?_
            try simp only [Act.put, List.setIfInBounds_toArray, List.set_cons_zero, List.set_cons_succ]
            refine g_take (i := 17) (d := (some 62)) (v := ?_) rfl rfl (by kernel_rfl) (fun _ _ _ h => h) (by rfl) (fun w' hb' => ?_) ?_
            rotate_left
            · (try go_simp); (try with_reducible rfl)
            try simp only [Act.put, List.setIfInBounds_toArray, List.set_cons_zero, List.set_cons_succ]
            refine g_take (i := 18) (d := (some 63)) (v := ?_) rfl rfl (by kernel_rfl) (fun _ _ _ h => h) (by rfl) (fun w' hb' => ?_) ?_
            rotate_left
            · (try go_simp); (try with_reducible rfl)
            try simp only [Act.put, List.setIfInBounds_toArray, List.set_cons_zero, List.set_cons_succ]
            refine g_take (i := 19) (d := (some 44)) (v := ?_) rfl rfl (by kernel_rfl) (fun _ _ _ h => h) (by rfl) (fun w' hb' => ?_) ?_
            rotate_left
            · (try go_simp); (try with_reducible rfl)
            try simp only [Act.put, List.setIfInBounds_toArray, List.set_cons_zero, List.set_cons_succ]
            refine g_done (by kernel_rfl) ?_
            simp only [noP]
            go_wp2_with fail
            refine wp_noP ?_
            refine g_start (by kernel_rfl) ?_
            refine g_take (i := 0) (d := (some 79)) (v := ?_) rfl rfl (by kernel_rfl) (fun _ _ _ h => h) (by rfl) (fun w' hb' => ?_) ?_
            rotate_left
            · (try go_simp); (try with_reducible rfl)
            try simp only [Act.put, List.setIfInBounds_toArray, List.set_cons_zero, List.set_cons_succ]
            refine g_take (i := 1) (d := (some 80)) (v := ?_) rfl rfl (by kernel_rfl) (fun _ _ _ h => h) (by rfl) (fun w' hb' => ?_) ?_
            rotate_left
            · (try go_simp); (try with_reducible rfl)
            try simp only [Act.put, List.setIfInBounds_toArray, List.set_cons_zero, List.set_cons_succ]
            refine g_take (i := 2) (d := (some 81)) (v := ?_) rfl rfl (by kernel_rfl) (fun _ _ _ h => h) (by rfl) (fun w' hb' => ?_) ?_
            rotate_left
            · (try go_simp); (try with_reducible rfl)
            try simp only [Act.put, List.setIfInBounds_toArray, List.set_cons_zero, List.set_cons_succ]
            refine g_take (i := 3) (d := (some 82)) (v := ?_) rfl rfl (by kernel_rfl) (fun _ _ _ h => h) (by rfl) (fun w' hb' => ?_) ?_
            rotate_left
            · (try go_simp); (try with_reducible rfl)
            try simp only [Act.put, List.setIfInBounds_toArray, List.set_cons_zero, List.set_cons_succ]
            refine g_skip (i := 4) (d := (some 83)) rfl rfl (by kernel_rfl) (fun _ _ _ h => h) (by rfl) ?_
            try simp only [Act.put, List.setIfInBounds_toArray, List.set_cons_zero, List.set_cons_succ]
            refine g_skip (i := 5) (d := (some 84)) rfl rfl (by kernel_rfl) (fun _ _ _ h => h) (by rfl) ?_
            try simp only [Act.put, List.setIfInBounds_toArray, List.set_cons_zero, List.set_cons_succ]
            refine g_skip (i := 6) (d := (some 85)) rfl rfl (by kernel_rfl) (fun _ _ _ h => h) (by rfl) ?_
            try simp only [Act.put, List.setIfInBounds_toArray, List.set_cons_zero, List.set_cons_succ]
            refine g_skip (i := 7) (d := (some 86)) rfl rfl (by kernel_rfl) (fun _ _ _ h => h) (by rfl) ?_
            try simp only [Act.put, List.setIfInBounds_toArray, List.set_cons_zero, List.set_cons_succ]
            refine g_skip (i := 8) (d := (some 87)) rfl rfl (by kernel_rfl) (fun _ _ _ h => h) (by rfl) ?_
            try simp only [Act.put, List.setIfInBounds_toArray, List.set_cons_zero, List.set_cons_succ]
            refine g_skip (i := 9) (d := (some 88)) rfl rfl (by kernel_rfl) (fun _ _ _ h => h) (by rfl) ?_
            try simp only [Act.put, List.setIfInBounds_toArray, List.set_cons_zero, List.set_cons_succ]
            refine g_skip (i := 10) (d := (some 89)) rfl rfl (by kernel_rfl) (fun _ _ _ h => h) (by rfl) ?_
            try simp only [Act.put, List.setIfInBounds_toArray, List.set_cons_zero, List.set_cons_succ]
            refine g_skip (i := 11) (d := (some 90)) rfl rfl (by kernel_rfl) (fun _ _ _ h => h) (by rfl) ?_
            try simp only [Act.put, List.setIfInBounds_toArray, List.set_cons_zero, List.set_cons_succ]
            refine g_skip (i := 12) (d := (some 91)) rfl rfl (by kernel_rfl) (fun _ _ _ h => h) (by rfl) ?_
            try simp only [Act.put, List.setIfInBounds_toArray, List.set_cons_zero, List.set_cons_succ]
            refine g_take (i := 13) (d := (some 92)) (v := ?_) rfl rfl (by kernel_rfl) (fun _ _ _ h => h) (by rfl) (fun w' hb' => ?_) ?_
            rotate_left
            · (try go_simp); (try with_reducible rfl)
            try simp only [Act.put, List.setIfInBounds_toArray, List.set_cons_zero, List.set_cons_succ]
            refine g_take (i := 14) (d := (some 78)) (v := ?_) rfl rfl (by kernel_rfl) (fun _ _ _ h => h) (by rfl) (fun w' hb' => ?_) ?_
            rotate_left
            · (try go_simp); (try with_reducible rfl)
            try simp only [Act.put, List.setIfInBounds_toArray, List.set_cons_zero, List.set_cons_succ]
            refine g_done (by kernel_rfl) ?_
            simp only [noP]
            go_wp2_with fail
            refine wp_noP ?_
            have SH : TyS tyE wr wr.drew.drew.drew ∧ wr.drew.drew.drew.heap[w.heap.size + 2]? = some (.cells #[uu] 57 (0, 0)) := ⟨(TyS.refl _ _).below (Below.refl _ _).drew.drew.drew, US.out.q4⟩
            refine v_start 8 ((fun W => TyS tyE wr W ∧ W.heap[w.heap.size + 2]? = some (.cells #[uu] 57 (0, 0)))) (by kernel_rfl) ?_
            refine v_take (i := 0) (d := (some 93)) (v := ?_) rfl rfl (by kernel_rfl) (fun _ _ _ h => h) (by rfl) SH (fun w' hb' => ?_) ?_
            rotate_left
            · have zz := block_cell hb'.2 0; (try go_simp); (try with_reducible rfl)
            try simp only [Act.put, List.setIfInBounds_toArray, List.set_cons_zero, List.set_cons_succ]
            refine v_take (i := 1) (d := (some 94)) (v := ?_) rfl rfl (by kernel_rfl) (fun _ _ _ h => h) (by rfl) SH (fun w' hb' => ?_) ?_
            rotate_left
            · (try go_simp); (try with_reducible rfl)
            try simp only [Act.put, List.setIfInBounds_toArray, List.set_cons_zero, List.set_cons_succ]
            refine v_take (i := 2) (d := (some 95)) (v := ?_) rfl rfl (by kernel_rfl) (fun _ _ _ h => h) (by rfl) SH (fun w' hb' => ?_) ?_
            rotate_left
            · (try go_simp); (try with_reducible rfl)
            try simp only [Act.put, List.setIfInBounds_toArray, List.set_cons_zero, List.set_cons_succ]
            refine v_take (i := 3) (d := (some 96)) (v := ?_) rfl rfl (by kernel_rfl) (fun _ _ _ h => h) (by rfl) SH (fun w' hb' => ?_) ?_
            rotate_left
            · (try go_simp); (try with_reducible rfl)
            try simp only [Act.put, List.setIfInBounds_toArray, List.set_cons_zero, List.set_cons_succ]
            refine v_take (i := 4) (d := (some 97)) (v := ?_) rfl rfl (by kernel_rfl) (fun _ _ _ h => h) (by rfl) SH (fun w' hb' => ?_) ?_
            rotate_left
            · have zz := (ld_head US.out.rb hb'.1).1; (try go_simp); (try with_reducible rfl)
            try simp only [Act.put, List.setIfInBounds_toArray, List.set_cons_zero, List.set_cons_succ]
            refine v_run (i := 5) rfl (by kernel_rfl) (by kernel_rfl) (by rfl) (fun K hK => ?_)
            go_simp
            refine hK _ _ ⟨SH, ?_⟩
            clear hK K
            try simp only [Act.put, List.setIfInBounds_toArray, List.set_cons_zero, List.set_cons_succ]
            refine v_run (i := 6) rfl (by kernel_rfl) (by kernel_rfl) (by rfl) (fun K hK => ?_)
            go_simp
            have bA := ((Below.refl wr.heap.size wr).alloc (Nat.le_refl _) (.cells #[.string (str xb.key), .int .i64 0, .int .i64 0, .string (str [])] 68)).drew.drew.drew
            have q8 := heap_alloc_new wr (.cells #[.string (str xb.key), .int .i64 0, .int .i64 0, .string (str [])] 68)
            have ownA := own_keep US.out.own bA
            refine hK _ _ (and_keep ⟨(TyS.refl _ _).below bA, (bA.block _ hl4).trans US.out.q4⟩ fun SH2 => ?_)
            clear hK K SH
            have SH := SH2
            clear SH2
            try simp only [Act.put, List.setIfInBounds_toArray, List.set_cons_zero, List.set_cons_succ]
            refine v_run (i := 7) rfl (by kernel_rfl) (by kernel_rfl) (by rfl) (fun K hK => ?_)
            obtain ⟨v9, W9, hrun, own9, gr⟩ := app_ed _ _ _ _ ownA _ ((⟨xb.key, eV0⟩ : Ed)) q8 (by have := bA.size; omega) (by have := HL.out; omega)
            obtain ⟨vo, vn, vc, rfl⟩ := own_slice own9
            obtain ⟨q9, LA9, LB9, US9⟩ := us_app US.out bA (Nat.le_refl _) own9 gr
            refine op_append (.tmp 93) (.tmp 99) 57 57 rfl rfl _ _ (.slice vo vn vc) W9 rfl rfl hrun ?_
            refine hK _ _ (and_keep ⟨SH.1.grown ownA (.inl rfl) gr, q9⟩ fun SH2 => ?_)
            clear hK K SH hrun gr ownA
            have SH := SH2
            clear SH2
            try simp only [Act.put, List.setIfInBounds_toArray, List.set_cons_zero, List.set_cons_succ]
            refine v_last (i := 8) rfl (by kernel_rfl) (by kernel_rfl) (by kernel_rfl) (by rfl) (fun K hK => ?_)
            have y9 := block_cell q9 0
            have f9 := fun i => block_frozen q9 i
            go_simp
            refine hK _ _ ?_
            clear hK K y9 f9
            simp only [noP]
            go_wp2_with ((with_reducible refine wpList_run (o := ⟨some 102, _, _, _, _, _⟩) rfl (.slice (slT (some ⟨bb, ob, none⟩) cb) (nb - 1) (cb - 1)) (slice1_op (.tmp 101) _ rfl _ nb cb rfl rfl hnb hcb) ?_))
            exact ⟨⟨_, _, _, _, _, _, rfl, rfl, _, _, _, _, Lib.hid US9.tb, Lib.hid (by have h := HE.out; rw [um_b0] at h; rw [← h]; simp), Lib.hid (by have := HL.out; simp; omega)⟩, by simp [lenV]; omega⟩
        · have hna : 0 < na := by have h1 := US.out.la; simp at h1; omega
          obtain ⟨ba, oa, rfl, hba, a0, a1, a2, a3, -, hca, -⟩ := it_head US.out.ra.rd
          obtain ⟨T, hT⟩ : ∃ T : Int, T = (na : Int) + (nb : Int) := ⟨_, rfl⟩
          have hw : IntKind.i64.wrap ((na : Int) + (nb : Int)) = T := by rw [IntKind.wrap_i64]; have := HL.out; omega
          have tT : decide (0 < T) = true := decide_eq_true (by omega)
          have ta0 : ((na : Int) == 0) = false := beq_eq_false_iff_ne.2 (by omega)
          have ta1 : decide (0 < (na : Int)) = true := decide_eq_true (by omega)
          have ta2 : decide (0 < na) = true := decide_eq_true hna
          have pa : (0 : Int) < (na : Int) := by omega
          have hl4 := lt_of_block US.out.q4
          have hl5 := lt_of_block US.out.q5
          clear hT
          rcases B with - | ⟨xb, B⟩
          · have tb0 : ((nb : Int) == 0) = true := by have h2 := US.out.lb; simp at h2; rw [← h2]; rfl
            go_wp2_with fail
            refine wp_noP ?_
            refine g_start (by kernel_rfl) ?_
            refine g_take (i := 0) (d := (some 45)) (v := ?_) rfl rfl (by kernel_rfl) (fun _ _ _ h => h) (by rfl) (fun w' hb' => ?_) ?_
            rotate_left
            · (try go_simp); (try with_reducible rfl)
            try simp only [Act.put, List.setIfInBounds_toArray, List.set_cons_zero, List.set_cons_succ]
            refine g_take (i := 1) (d := (some 46)) (v := ?_) rfl rfl (by kernel_rfl) (fun _ _ _ h => h) (by rfl) (fun w' hb' => ?_) ?_
            rotate_left
            · (try go_simp); (try with_reducible rfl)
            try simp only [Act.put, List.setIfInBounds_toArray, List.set_cons_zero, List.set_cons_succ]
            refine g_take (i := 2) (d := (some 47)) (v := ?_) rfl rfl (by kernel_rfl) (fun _ _ _ h => h) (by rfl) (fun w' hb' => ?_) ?_
            rotate_left
            · (try go_simp); (try with_reducible rfl)
            try simp only [Act.put, List.setIfInBounds_toArray, List.set_cons_zero, List.set_cons_succ]
            refine g_take (i := 3) (d := (some 48)) (v := ?_) rfl rfl (by kernel_rfl) (fun _ _ _ h => h) (by rfl) (fun w' hb' => ?_) ?_
            rotate_left
            · (try go_simp); (try with_reducible rfl)
            try simp only [Act.put, List.setIfInBounds_toArray, List.set_cons_zero, List.set_cons_succ]
            refine g_skip (i := 4) (d := (some 49)) rfl rfl (by kernel_rfl) (fun _ _ _ h => h) (by rfl) ?_
            try simp only [Act.put, List.setIfInBounds_toArray, List.set_cons_zero, List.set_cons_succ]
            refine g_skip (i := 5) (d := (some 50)) rfl rfl (by kernel_rfl) (fun _ _ _ h => h) (by rfl) ?_
            try simp only [Act.put, List.setIfInBounds_toArray, List.set_cons_zero, List.set_cons_succ]
            refine g_skip (i := 6) (d := (some 51)) rfl rfl (by kernel_rfl) (fun _ _ _ h => h) (by rfl) ?_
            try simp only [Act.put, List.setIfInBounds_toArray, List.set_cons_zero, List.set_cons_succ]
            refine g_skip (i := 7) (d := (some 52)) rfl rfl (by kernel_rfl) (fun _ _ _ h => h) (by rfl) ?_
            try simp only [Act.put, List.setIfInBounds_toArray, List.set_cons_zero, List.set_cons_succ]
            refine g_skip (i := 8) (d := (some 53)) rfl rfl (by kernel_rfl) (fun _ _ _ h => h) (by rfl) ?_
            try simp only [Act.put, List.setIfInBounds_toArray, List.set_cons_zero, List.set_cons_succ]
            refine g_skip (i := 9) (d := (some 54)) rfl rfl (by kernel_rfl) (fun _ _ _ h => h) (by rfl) ?_
            try simp only [Act.put, List.setIfInBounds_toArray, List.set_cons_zero, List.set_cons_succ]
            refine g_skip (i := 10) (d := (some 55)) rfl rfl (by kernel_rfl) (fun _ _ _ h => h) (by rfl) ?_
            try simp only [Act.put, List.setIfInBounds_toArray, List.set_cons_zero, List.set_cons_succ]
            refine g_skip (i := 11) (d := (some 56)) rfl rfl (by kernel_rfl) (fun _ _ _ h => h) (by rfl) ?_
            try simp only [Act.put, List.setIfInBounds_toArray, List.set_cons_zero, List.set_cons_succ]
            refine g_skip (i := 12) (d := (some 57)) rfl rfl (by kernel_rfl) (fun _ _ _ h => h) (by rfl) ?_
            try simp only [Act.put, List.setIfInBounds_toArray, List.set_cons_zero, List.set_cons_succ]
            refine g_skip (i := 13) (d := (some 58)) rfl rfl (by kernel_rfl) (fun _ _ _ h => h) (by rfl) ?_
            try simp only [Act.put, List.setIfInBounds_toArray, List.set_cons_zero, List.set_cons_succ]
            refine g_skip (i := 14) (d := (some 59)) rfl rfl (by kernel_rfl) (fun _ _ _ h => h) (by rfl) ?_
            try simp only [Act.put, List.setIfInBounds_toArray, List.set_cons_zero, List.set_cons_succ]
            refine g_skip (i := 15) (d := (some 60)) rfl rfl (by kernel_rfl) (fun _ _ _ h => h) (by rfl) ?_
            try simp only [Act.put, List.setIfInBounds_toArray, List.set_cons_zero, List.set_cons_succ]
            refine g_skip (i := 16) (d := (some 61)) rfl rfl (by kernel_rfl) (fun _ _ _ h => h) (by rfl) ?_
            try simp only [Act.put, List.setIfInBounds_toArray, List.set_cons_zero, List.set_cons_succ]
            refine g_skip (i := 17) (d := (some 62)) rfl rfl (by kernel_rfl) (fun _ _ _ h => h) (by rfl) ?_
            try simp only [Act.put, List.setIfInBounds_toArray, List.set_cons_zero, List.set_cons_succ]
            refine g_take (i := 18) (d := (some 63)) (v := ?_) rfl rfl (by kernel_rfl) (fun _ _ _ h => h) (by rfl) (fun w' hb' => ?_) ?_
            rotate_left
            · (try go_simp); (try with_reducible rfl)
            try simp only [Act.put, List.setIfInBounds_toArray, List.set_cons_zero, List.set_cons_succ]
            refine g_take (i := 19) (d := (some 44)) (v := ?_) rfl rfl (by kernel_rfl) (fun _ _ _ h => h) (by rfl) (fun w' hb' => ?_) ?_
            rotate_left
            · (try go_simp); (try with_reducible rfl)
            try simp only [Act.put, List.setIfInBounds_toArray, List.set_cons_zero, List.set_cons_succ]
            refine g_done (by kernel_rfl) ?_
            simp only [noP]
            go_wp2_with fail
            refine wp_noP ?_
            have SH : TyS tyE wr wr.drew.drew ∧ wr.drew.drew.heap[w.heap.size + 2]? = some (.cells #[uu] 57 (0, 0)) := ⟨(TyS.refl _ _).below (Below.refl _ _).drew.drew, US.out.q4⟩
            refine v_start 12 ((fun W => TyS tyE wr W ∧ W.heap[w.heap.size + 2]? = some (.cells #[uu] 57 (0, 0)))) (by kernel_rfl) ?_
            refine v_take (i := 0) (d := (some 64)) (v := ?_) rfl rfl (by kernel_rfl) (fun _ _ _ h => h) (by rfl) SH (fun w' hb' => ?_) ?_
            rotate_left
            · have zz := block_cell hb'.2 0; (try go_simp); (try with_reducible rfl)
            try simp only [Act.put, List.setIfInBounds_toArray, List.set_cons_zero, List.set_cons_succ]
            refine v_take (i := 1) (d := (some 65)) (v := ?_) rfl rfl (by kernel_rfl) (fun _ _ _ h => h) (by rfl) SH (fun w' hb' => ?_) ?_
            rotate_left
            · (try go_simp); (try with_reducible rfl)
            try simp only [Act.put, List.setIfInBounds_toArray, List.set_cons_zero, List.set_cons_succ]
            refine v_take (i := 2) (d := (some 66)) (v := ?_) rfl rfl (by kernel_rfl) (fun _ _ _ h => h) (by rfl) SH (fun w' hb' => ?_) ?_
            rotate_left
            · (try go_simp); (try with_reducible rfl)
            try simp only [Act.put, List.setIfInBounds_toArray, List.set_cons_zero, List.set_cons_succ]
            refine v_take (i := 3) (d := (some 67)) (v := ?_) rfl rfl (by kernel_rfl) (fun _ _ _ h => h) (by rfl) SH (fun w' hb' => ?_) ?_
            rotate_left
            · (try go_simp); (try with_reducible rfl)
            try simp only [Act.put, List.setIfInBounds_toArray, List.set_cons_zero, List.set_cons_succ]
            refine v_take (i := 4) (d := (some 68)) (v := ?_) rfl rfl (by kernel_rfl) (fun _ _ _ h => h) (by rfl) SH (fun w' hb' => ?_) ?_
            rotate_left
            · have zz := (ld_head US.out.ra hb'.1).1; (try go_simp); (try with_reducible rfl)
            try simp only [Act.put, List.setIfInBounds_toArray, List.set_cons_zero, List.set_cons_succ]
            refine v_take (i := 5) (d := (some 69)) (v := ?_) rfl rfl (by kernel_rfl) (fun _ _ _ h => h) (by rfl) SH (fun w' hb' => ?_) ?_
            rotate_left
            · (try go_simp); (try with_reducible rfl)
            try simp only [Act.put, List.setIfInBounds_toArray, List.set_cons_zero, List.set_cons_succ]
            refine v_take (i := 6) (d := (some 70)) (v := ?_) rfl rfl (by kernel_rfl) (fun _ _ _ h => h) (by rfl) SH (fun w' hb' => ?_) ?_
            rotate_left
            · (try go_simp); (try with_reducible rfl)
            try simp only [Act.put, List.setIfInBounds_toArray, List.set_cons_zero, List.set_cons_succ]
            refine v_take (i := 7) (d := (some 71)) (v := ?_) rfl rfl (by kernel_rfl) (fun _ _ _ h => h) (by rfl) SH (fun w' hb' => ?_) ?_
            rotate_left
            · (try go_simp); (try with_reducible rfl)
            try simp only [Act.put, List.setIfInBounds_toArray, List.set_cons_zero, List.set_cons_succ]
            refine v_take (i := 8) (d := (some 72)) (v := ?_) rfl rfl (by kernel_rfl) (fun _ _ _ h => h) (by rfl) SH (fun w' hb' => ?_) ?_
            rotate_left
            · obtain ⟨-, z1, z2, z3⟩ := ld_head US.out.ra hb'.1; (try go_simp); (try with_reducible rfl)
            try simp only [Act.put, List.setIfInBounds_toArray, List.set_cons_zero, List.set_cons_succ]
            refine v_run (i := 9) rfl (by kernel_rfl) (by kernel_rfl) (by rfl) (fun K hK => ?_)
            go_simp
            refine hK _ _ ⟨SH, ?_⟩
            clear hK K
            try simp only [Act.put, List.setIfInBounds_toArray, List.set_cons_zero, List.set_cons_succ]
            refine v_run (i := 10) rfl (by kernel_rfl) (by kernel_rfl) (by rfl) (fun K hK => ?_)
            go_simp
            have bA := ((Below.refl wr.heap.size wr).alloc (Nat.le_refl _) (.cells #[.string (str xa.key), .int .i64 xa.v.k, .int .i64 xa.v.i, .string (str xa.v.s)] 68)).drew.drew
            have q8 := heap_alloc_new wr (.cells #[.string (str xa.key), .int .i64 xa.v.k, .int .i64 xa.v.i, .string (str xa.v.s)] 68)
            have ownA := own_keep US.out.own bA
            refine hK _ _ (and_keep ⟨(TyS.refl _ _).below bA, (bA.block _ hl4).trans US.out.q4⟩ fun SH2 => ?_)
            clear hK K SH
            have SH := SH2
            clear SH2
            try simp only [Act.put, List.setIfInBounds_toArray, List.set_cons_zero, List.set_cons_succ]
            refine v_run (i := 11) rfl (by kernel_rfl) (by kernel_rfl) (by rfl) (fun K hK => ?_)
            obtain ⟨v9, W9, hrun, own9, gr⟩ := app_ed _ _ _ _ ownA _ ((⟨xa.key, xa.v⟩ : Ed)) q8 (by have := bA.size; omega) (by have := HL.out; omega)
            obtain ⟨vo, vn, vc, rfl⟩ := own_slice own9
            obtain ⟨q9, LA9, LB9, US9⟩ := us_app US.out bA (Nat.le_refl _) own9 gr
            refine op_append (.tmp 64) (.tmp 74) 57 57 rfl rfl _ _ (.slice vo vn vc) W9 rfl rfl hrun ?_
            refine hK _ _ (and_keep ⟨SH.1.grown ownA (.inl rfl) gr, q9⟩ fun SH2 => ?_)
            clear hK K SH hrun gr ownA
            have SH := SH2
            clear SH2
            try simp only [Act.put, List.setIfInBounds_toArray, List.set_cons_zero, List.set_cons_succ]
            refine v_last (i := 12) rfl (by kernel_rfl) (by kernel_rfl) (by kernel_rfl) (by rfl) (fun K hK => ?_)
            have y9 := block_cell q9 0
            have f9 := fun i => block_frozen q9 i
            go_simp
            refine hK _ _ ?_
            clear hK K y9 f9
            simp only [noP]
            go_wp2_with ((with_reducible refine wpList_run (o := ⟨some 77, _, _, _, _, _⟩) rfl (.slice (slT (some ⟨ba, oa, none⟩) ca) (na - 1) (ca - 1)) (slice1_op (.tmp 76) _ rfl _ na ca rfl rfl hna hca) ?_))
            exact ⟨⟨_, _, _, _, _, _, rfl, rfl, _, _, _, _, Lib.hid US9.ta, Lib.hid (by have h := HE.out; rw [um_a0] at h; rw [← h]; simp), Lib.hid (by have := HL.out; simp; omega)⟩, by simp [lenV]; omega⟩
          · have hnb : 0 < nb := by have h2 := US.out.lb; simp at h2; omega
            obtain ⟨bb, ob, rfl, hbb, b0, b1, b2, b3, -, hcb, -⟩ := it_head US.out.rb.rd
            have tb0 : ((nb : Int) == 0) = false := beq_eq_false_iff_ne.2 (by omega)
            have pb : (0 : Int) < (nb : Int) := by omega
            have fL := less_str xa.key xb.key
            have fR := less_str xb.key xa.key
            cases h1 : ltB xa.key xb.key with
            | true =>
              have HE2 := Lib.hid (show acc ++ (⟨xa.key, xa.v⟩ :: undoM A (xb :: B)) = UL by rw [← um_a h1]; exact HE.out)
              rw [h1] at fL
              clear h1 fR
              go_wp2_with fail
              refine wp_noP ?_
              refine g_start (by kernel_rfl) ?_
              refine g_take (i := 0) (d := (some 45)) (v := ?_) rfl rfl (by kernel_rfl) (fun _ _ _ h => h) (by rfl) (fun w' hb' => ?_) ?_
              rotate_left
              · (try go_simp); (try with_reducible rfl)
              try simp only [Act.put, List.setIfInBounds_toArray, List.set_cons_zero, List.set_cons_succ]
              refine g_take (i := 1) (d := (some 46)) (v := ?_) rfl rfl (by kernel_rfl) (fun _ _ _ h => h) (by rfl) (fun w' hb' => ?_) ?_
              rotate_left
              · (try go_simp); (try with_reducible rfl)
              try simp only [Act.put, List.setIfInBounds_toArray, List.set_cons_zero, List.set_cons_succ]
              refine g_take (i := 2) (d := (some 47)) (v := ?_) rfl rfl (by kernel_rfl) (fun _ _ _ h => h) (by rfl) (fun w' hb' => ?_) ?_
              rotate_left
              · (try go_simp); (try with_reducible rfl)
              try simp only [Act.put, List.setIfInBounds_toArray, List.set_cons_zero, List.set_cons_succ]
              refine g_take (i := 3) (d := (some 48)) (v := ?_) rfl rfl (by kernel_rfl) (fun _ _ _ h => h) (by rfl) (fun w' hb' => ?_) ?_
              rotate_left
              · (try go_simp); (try with_reducible rfl)
              try simp only [Act.put, List.setIfInBounds_toArray, List.set_cons_zero, List.set_cons_succ]
              refine g_take (i := 4) (d := (some 49)) (v := ?_) rfl rfl (by kernel_rfl) (fun _ _ _ h => h) (by rfl) (fun w' hb' => ?_) ?_
              rotate_left
              · (try go_simp); (try with_reducible rfl)
              try simp only [Act.put, List.setIfInBounds_toArray, List.set_cons_zero, List.set_cons_succ]
              refine g_take (i := 5) (d := (some 50)) (v := ?_) rfl rfl (by kernel_rfl) (fun _ _ _ h => h) (by rfl) (fun w' hb' => ?_) ?_
              rotate_left
              · (try go_simp); (try with_reducible rfl)
              try simp only [Act.put, List.setIfInBounds_toArray, List.set_cons_zero, List.set_cons_succ]
              refine g_take (i := 6) (d := (some 51)) (v := ?_) rfl rfl (by kernel_rfl) (fun _ _ _ h => h) (by rfl) (fun w' hb' => ?_) ?_
              rotate_left
              · (try go_simp); (try with_reducible rfl)
              try simp only [Act.put, List.setIfInBounds_toArray, List.set_cons_zero, List.set_cons_succ]
              refine g_take (i := 7) (d := (some 52)) (v := ?_) rfl rfl (by kernel_rfl) (fun _ _ _ h => h) (by rfl) (fun w' hb' => ?_) ?_
              rotate_left
              · (try go_simp); (try with_reducible rfl)
              try simp only [Act.put, List.setIfInBounds_toArray, List.set_cons_zero, List.set_cons_succ]
              refine g_take (i := 8) (d := (some 53)) (v := ?_) rfl rfl (by kernel_rfl) (fun _ _ _ h => h) (by rfl) (fun w' hb' => ?_) ?_
              rotate_left
              · (try go_simp); (try with_reducible rfl)
              try simp only [Act.put, List.setIfInBounds_toArray, List.set_cons_zero, List.set_cons_succ]
              refine g_take (i := 9) (d := (some 54)) (v := ?_) rfl rfl (by kernel_rfl) (fun _ _ _ h => h) (by rfl) (fun w' hb' => ?_) ?_
              rotate_left
              · (try go_simp); (try with_reducible rfl)
              try simp only [Act.put, List.setIfInBounds_toArray, List.set_cons_zero, List.set_cons_succ]
              refine g_take (i := 10) (d := (some 55)) (v := ?_) rfl rfl (by kernel_rfl) (fun _ _ _ h => h) (by rfl) (fun w' hb' => ?_) ?_
              rotate_left
              · (try go_simp); (try with_reducible rfl)
              try simp only [Act.put, List.setIfInBounds_toArray, List.set_cons_zero, List.set_cons_succ]
              refine g_take (i := 11) (d := (some 56)) (v := ?_) rfl rfl (by kernel_rfl) (fun _ _ _ h => h) (by rfl) (fun w' hb' => ?_) ?_
              rotate_left
              · have zz := (hb'.cell (p := ⟨ba, oa, none⟩) hba).trans a0; (try go_simp); (try with_reducible rfl)
              try simp only [Act.put, List.setIfInBounds_toArray, List.set_cons_zero, List.set_cons_succ]
              refine g_take (i := 12) (d := (some 57)) (v := ?_) rfl rfl (by kernel_rfl) (fun _ _ _ h => h) (by rfl) (fun w' hb' => ?_) ?_
              rotate_left
              · (try go_simp); (try with_reducible rfl)
              try simp only [Act.put, List.setIfInBounds_toArray, List.set_cons_zero, List.set_cons_succ]
              refine g_take (i := 13) (d := (some 58)) (v := ?_) rfl rfl (by kernel_rfl) (fun _ _ _ h => h) (by rfl) (fun w' hb' => ?_) ?_
              rotate_left
              · (try go_simp); (try with_reducible rfl)
              try simp only [Act.put, List.setIfInBounds_toArray, List.set_cons_zero, List.set_cons_succ]
              refine g_take (i := 14) (d := (some 59)) (v := ?_) rfl rfl (by kernel_rfl) (fun _ _ _ h => h) (by rfl) (fun w' hb' => ?_) ?_
              rotate_left
              · (try go_simp); (try with_reducible rfl)
              try simp only [Act.put, List.setIfInBounds_toArray, List.set_cons_zero, List.set_cons_succ]
              refine g_take (i := 15) (d := (some 60)) (v := ?_) rfl rfl (by kernel_rfl) (fun _ _ _ h => h) (by rfl) (fun w' hb' => ?_) ?_
              rotate_left
              · have zz := (hb'.cell (p := ⟨bb, ob, none⟩) hbb).trans b0; (try go_simp); (try with_reducible rfl)
              try simp only [Act.put, List.setIfInBounds_toArray, List.set_cons_zero, List.set_cons_succ]
              refine g_take (i := 16) (d := (some 61)) (v := ?_) rfl rfl (by kernel_rfl) (fun _ _ _ h => h) (by rfl) (fun w' hb' => ?_) ?_
              rotate_left
              · (try go_simp); (try with_reducible rfl)
              try simp only [Act.put, List.setIfInBounds_toArray, List.set_cons_zero, List.set_cons_succ]
              refine g_take (i := 17) (d := (some 62)) (v := ?_) rfl rfl (by kernel_rfl) (fun _ _ _ h => h) (by rfl) (fun w' hb' => ?_) ?_
              rotate_left
              · (try go_simp); (try with_reducible rfl)
              try simp only [Act.put, List.setIfInBounds_toArray, List.set_cons_zero, List.set_cons_succ]
              refine g_take (i := 18) (d := (some 63)) (v := ?_) rfl rfl (by kernel_rfl) (fun _ _ _ h => h) (by rfl) (fun w' hb' => ?_) ?_
              rotate_left
              · (try go_simp); (try with_reducible rfl)
              try simp only [Act.put, List.setIfInBounds_toArray, List.set_cons_zero, List.set_cons_succ]
              refine g_take (i := 19) (d := (some 44)) (v := ?_) rfl rfl (by kernel_rfl) (fun _ _ _ h => h) (by rfl) (fun w' hb' => ?_) ?_
              rotate_left
              · (try go_simp); (try with_reducible rfl)
              try simp only [Act.put, List.setIfInBounds_toArray, List.set_cons_zero, List.set_cons_succ]
              refine g_done (by kernel_rfl) ?_
              simp only [noP]
              go_wp2_with fail
              refine wp_noP ?_
              have SH : TyS tyE wr wr.drew.drew ∧ wr.drew.drew.heap[w.heap.size + 2]? = some (.cells #[uu] 57 (0, 0)) := ⟨(TyS.refl _ _).below (Below.refl _ _).drew.drew, US.out.q4⟩
              refine v_start 12 ((fun W => TyS tyE wr W ∧ W.heap[w.heap.size + 2]? = some (.cells #[uu] 57 (0, 0)))) (by kernel_rfl) ?_
              refine v_take (i := 0) (d := (some 64)) (v := ?_) rfl rfl (by kernel_rfl) (fun _ _ _ h => h) (by rfl) SH (fun w' hb' => ?_) ?_
              rotate_left
              · have zz := block_cell hb'.2 0; (try go_simp); (try with_reducible rfl)
              try simp only [Act.put, List.setIfInBounds_toArray, List.set_cons_zero, List.set_cons_succ]
              refine v_take (i := 1) (d := (some 65)) (v := ?_) rfl rfl (by kernel_rfl) (fun _ _ _ h => h) (by rfl) SH (fun w' hb' => ?_) ?_
              rotate_left
              · (try go_simp); (try with_reducible rfl)
              try simp only [Act.put, List.setIfInBounds_toArray, List.set_cons_zero, List.set_cons_succ]
              refine v_take (i := 2) (d := (some 66)) (v := ?_) rfl rfl (by kernel_rfl) (fun _ _ _ h => h) (by rfl) SH (fun w' hb' => ?_) ?_
              rotate_left
              · (try go_simp); (try with_reducible rfl)
              try simp only [Act.put, List.setIfInBounds_toArray, List.set_cons_zero, List.set_cons_succ]
              refine v_take (i := 3) (d := (some 67)) (v := ?_) rfl rfl (by kernel_rfl) (fun _ _ _ h => h) (by rfl) SH (fun w' hb' => ?_) ?_
              rotate_left
              · (try go_simp); (try with_reducible rfl)
              try simp only [Act.put, List.setIfInBounds_toArray, List.set_cons_zero, List.set_cons_succ]
              refine v_take (i := 4) (d := (some 68)) (v := ?_) rfl rfl (by kernel_rfl) (fun _ _ _ h => h) (by rfl) SH (fun w' hb' => ?_) ?_
              rotate_left
              · have zz := (ld_head US.out.ra hb'.1).1; (try go_simp); (try with_reducible rfl)
              try simp only [Act.put, List.setIfInBounds_toArray, List.set_cons_zero, List.set_cons_succ]
              refine v_take (i := 5) (d := (some 69)) (v := ?_) rfl rfl (by kernel_rfl) (fun _ _ _ h => h) (by rfl) SH (fun w' hb' => ?_) ?_
              rotate_left
              · (try go_simp); (try with_reducible rfl)
              try simp only [Act.put, List.setIfInBounds_toArray, List.set_cons_zero, List.set_cons_succ]
              refine v_take (i := 6) (d := (some 70)) (v := ?_) rfl rfl (by kernel_rfl) (fun _ _ _ h => h) (by rfl) SH (fun w' hb' => ?_) ?_
              rotate_left
              · (try go_simp); (try with_reducible rfl)
              try simp only [Act.put, List.setIfInBounds_toArray, List.set_cons_zero, List.set_cons_succ]
              refine v_take (i := 7) (d := (some 71)) (v := ?_) rfl rfl (by kernel_rfl) (fun _ _ _ h => h) (by rfl) SH (fun w' hb' => ?_) ?_
              rotate_left
              · (try go_simp); (try with_reducible rfl)
              try simp only [Act.put, List.setIfInBounds_toArray, List.set_cons_zero, List.set_cons_succ]
              refine v_take (i := 8) (d := (some 72)) (v := ?_) rfl rfl (by kernel_rfl) (fun _ _ _ h => h) (by rfl) SH (fun w' hb' => ?_) ?_
              rotate_left
              · obtain ⟨-, z1, z2, z3⟩ := ld_head US.out.ra hb'.1; (try go_simp); (try with_reducible rfl)
              try simp only [Act.put, List.setIfInBounds_toArray, List.set_cons_zero, List.set_cons_succ]
              refine v_run (i := 9) rfl (by kernel_rfl) (by kernel_rfl) (by rfl) (fun K hK => ?_)
              go_simp
              refine hK _ _ ⟨SH, ?_⟩
              clear hK K
              try simp only [Act.put, List.setIfInBounds_toArray, List.set_cons_zero, List.set_cons_succ]
              refine v_run (i := 10) rfl (by kernel_rfl) (by kernel_rfl) (by rfl) (fun K hK => ?_)
              go_simp
              have bA := ((Below.refl wr.heap.size wr).alloc (Nat.le_refl _) (.cells #[.string (str xa.key), .int .i64 xa.v.k, .int .i64 xa.v.i, .string (str xa.v.s)] 68)).drew.drew
              have q8 := heap_alloc_new wr (.cells #[.string (str xa.key), .int .i64 xa.v.k, .int .i64 xa.v.i, .string (str xa.v.s)] 68)
              have ownA := own_keep US.out.own bA
              refine hK _ _ (and_keep ⟨(TyS.refl _ _).below bA, (bA.block _ hl4).trans US.out.q4⟩ fun SH2 => ?_)
              clear hK K SH
              have SH := SH2
              clear SH2
              try simp only [Act.put, List.setIfInBounds_toArray, List.set_cons_zero, List.set_cons_succ]
              refine v_run (i := 11) rfl (by kernel_rfl) (by kernel_rfl) (by rfl) (fun K hK => ?_)
              obtain ⟨v9, W9, hrun, own9, gr⟩ := app_ed _ _ _ _ ownA _ ((⟨xa.key, xa.v⟩ : Ed)) q8 (by have := bA.size; omega) (by have := HL.out; omega)
              obtain ⟨vo, vn, vc, rfl⟩ := own_slice own9
              obtain ⟨q9, LA9, LB9, US9⟩ := us_app US.out bA (Nat.le_refl _) own9 gr
              refine op_append (.tmp 64) (.tmp 74) 57 57 rfl rfl _ _ (.slice vo vn vc) W9 rfl rfl hrun ?_
              refine hK _ _ (and_keep ⟨SH.1.grown ownA (.inl rfl) gr, q9⟩ fun SH2 => ?_)
              clear hK K SH hrun gr ownA
              have SH := SH2
              clear SH2
              try simp only [Act.put, List.setIfInBounds_toArray, List.set_cons_zero, List.set_cons_succ]
              refine v_last (i := 12) rfl (by kernel_rfl) (by kernel_rfl) (by kernel_rfl) (by rfl) (fun K hK => ?_)
              have y9 := block_cell q9 0
              have f9 := fun i => block_frozen q9 i
              go_simp
              refine hK _ _ ?_
              clear hK K y9 f9
              simp only [noP]
              go_wp2_with ((with_reducible refine wpList_run (o := ⟨some 77, _, _, _, _, _⟩) rfl (.slice (slT (some ⟨ba, oa, none⟩) ca) (na - 1) (ca - 1)) (slice1_op (.tmp 76) _ rfl _ na ca rfl rfl hna hca) ?_))
              exact ⟨⟨_, _, _, _, _, _, rfl, rfl, _, _, _, _, Lib.hid US9.ta, Lib.hid (by rw [← HE2.out]; simp), Lib.hid (by have := HL.out; simp; omega)⟩, by simp [lenV]; omega⟩
            | false =>
              cases h2 : ltB xb.key xa.key with
              | true =>
                have HE2 := Lib.hid (show acc ++ (⟨xb.key, eV0⟩ :: undoM (xa :: A) B) = UL by rw [← um_b h1 h2]; exact HE.out)
                rw [h1] at fL
                rw [h2] at fR
                clear h1 h2
                go_wp2_with fail
                refine wp_noP ?_
                refine g_start (by kernel_rfl) ?_
                refine g_take (i := 0) (d := (some 45)) (v := ?_) rfl rfl (by kernel_rfl) (fun _ _ _ h => h) (by rfl) (fun w' hb' => ?_) ?_
                rotate_left
                · (try go_simp); (try with_reducible rfl)
                try simp only [Act.put, List.setIfInBounds_toArray, List.set_cons_zero, List.set_cons_succ]
                refine g_take (i := 1) (d := (some 46)) (v := ?_) rfl rfl (by kernel_rfl) (fun _ _ _ h => h) (by rfl) (fun w' hb' => ?_) ?_
                rotate_left
                · (try go_simp); (try with_reducible rfl)
                try simp only [Act.put, List.setIfInBounds_toArray, List.set_cons_zero, List.set_cons_succ]
                refine g_take (i := 2) (d := (some 47)) (v := ?_) rfl rfl (by kernel_rfl) (fun _ _ _ h => h) (by rfl) (fun w' hb' => ?_) ?_
                rotate_left
                · (try go_simp); (try with_reducible rfl)
                try simp only [Act.put, List.setIfInBounds_toArray, List.set_cons_zero, List.set_cons_succ]
                refine g_take (i := 3) (d := (some 48)) (v := ?_) rfl rfl (by kernel_rfl) (fun _ _ _ h => h) (by rfl) (fun w' hb' => ?_) ?_
                rotate_left
                · (try go_simp); (try with_reducible rfl)
                try simp only [Act.put, List.setIfInBounds_toArray, List.set_cons_zero, List.set_cons_succ]
                refine g_take (i := 4) (d := (some 49)) (v := ?_) rfl rfl (by kernel_rfl) (fun _ _ _ h => h) (by rfl) (fun w' hb' => ?_) ?_
                rotate_left
                · (try go_simp); (try with_reducible rfl)
                try simp only [Act.put, List.setIfInBounds_toArray, List.set_cons_zero, List.set_cons_succ]
                refine g_take (i := 5) (d := (some 50)) (v := ?_) rfl rfl (by kernel_rfl) (fun _ _ _ h => h) (by rfl) (fun w' hb' => ?_) ?_
                rotate_left
                · (try go_simp); (try with_reducible rfl)
                try simp only [Act.put, List.setIfInBounds_toArray, List.set_cons_zero, List.set_cons_succ]
                refine g_take (i := 6) (d := (some 51)) (v := ?_) rfl rfl (by kernel_rfl) (fun _ _ _ h => h) (by rfl) (fun w' hb' => ?_) ?_
                rotate_left
                · (try go_simp); (try with_reducible rfl)
                try simp only [Act.put, List.setIfInBounds_toArray, List.set_cons_zero, List.set_cons_succ]
                refine g_take (i := 7) (d := (some 52)) (v := ?_) rfl rfl (by kernel_rfl) (fun _ _ _ h => h) (by rfl) (fun w' hb' => ?_) ?_
                rotate_left
                · (try go_simp); (try with_reducible rfl)
                try simp only [Act.put, List.setIfInBounds_toArray, List.set_cons_zero, List.set_cons_succ]
                refine g_take (i := 8) (d := (some 53)) (v := ?_) rfl rfl (by kernel_rfl) (fun _ _ _ h => h) (by rfl) (fun w' hb' => ?_) ?_
                rotate_left
                · (try go_simp); (try with_reducible rfl)
                try simp only [Act.put, List.setIfInBounds_toArray, List.set_cons_zero, List.set_cons_succ]
                refine g_take (i := 9) (d := (some 54)) (v := ?_) rfl rfl (by kernel_rfl) (fun _ _ _ h => h) (by rfl) (fun w' hb' => ?_) ?_
                rotate_left
                · (try go_simp); (try with_reducible rfl)
                try simp only [Act.put, List.setIfInBounds_toArray, List.set_cons_zero, List.set_cons_succ]
                refine g_take (i := 10) (d := (some 55)) (v := ?_) rfl rfl (by kernel_rfl) (fun _ _ _ h => h) (by rfl) (fun w' hb' => ?_) ?_
                rotate_left
                · (try go_simp); (try with_reducible rfl)
                try simp only [Act.put, List.setIfInBounds_toArray, List.set_cons_zero, List.set_cons_succ]
                refine g_take (i := 11) (d := (some 56)) (v := ?_) rfl rfl (by kernel_rfl) (fun _ _ _ h => h) (by rfl) (fun w' hb' => ?_) ?_
                rotate_left
                · have zz := (hb'.cell (p := ⟨ba, oa, none⟩) hba).trans a0; (try go_simp); (try with_reducible rfl)
                try simp only [Act.put, List.setIfInBounds_toArray, List.set_cons_zero, List.set_cons_succ]
                refine g_take (i := 12) (d := (some 57)) (v := ?_) rfl rfl (by kernel_rfl) (fun _ _ _ h => h) (by rfl) (fun w' hb' => ?_) ?_
                rotate_left
                · (try go_simp); (try with_reducible rfl)
                try simp only [Act.put, List.setIfInBounds_toArray, List.set_cons_zero, List.set_cons_succ]
                refine g_take (i := 13) (d := (some 58)) (v := ?_) rfl rfl (by kernel_rfl) (fun _ _ _ h => h) (by rfl) (fun w' hb' => ?_) ?_
                rotate_left
                · (try go_simp); (try with_reducible rfl)
                try simp only [Act.put, List.setIfInBounds_toArray, List.set_cons_zero, List.set_cons_succ]
                refine g_take (i := 14) (d := (some 59)) (v := ?_) rfl rfl (by kernel_rfl) (fun _ _ _ h => h) (by rfl) (fun w' hb' => ?_) ?_
                rotate_left
                · (try go_simp); (try with_reducible rfl)
                try simp only [Act.put, List.setIfInBounds_toArray, List.set_cons_zero, List.set_cons_succ]
                refine g_take (i := 15) (d := (some 60)) (v := ?_) rfl rfl (by kernel_rfl) (fun _ _ _ h => h) (by rfl) (fun w' hb' => ?_) ?_
                rotate_left
                · have zz := (hb'.cell (p := ⟨bb, ob, none⟩) hbb).trans b0; (try go_simp); (try with_reducible rfl)
                try simp only [Act.put, List.setIfInBounds_toArray, List.set_cons_zero, List.set_cons_succ]
                refine g_take (i := 16) (d := (some 61)) (v := ?_) rfl rfl (by kernel_rfl) (fun _ _ _ h => h) (by rfl) (fun w' hb' => ?_) ?_
                rotate_left
                · (try go_simp); (try with_reducible rfl)
                try simp only [Act.put, List.setIfInBounds_toArray, List.set_cons_zero, List.set_cons_succ]
                refine g_take (i := 17) (d := (some 62)) (v := ?_) rfl rfl (by kernel_rfl) (fun _ _ _ h => h) (by rfl) (fun w' hb' => ?_) ?_
                rotate_left
                · (try go_simp); (try with_reducible rfl)
                try simp only [Act.put, List.setIfInBounds_toArray, List.set_cons_zero, List.set_cons_succ]
                refine g_take (i := 18) (d := (some 63)) (v := ?_) rfl rfl (by kernel_rfl) (fun _ _ _ h => h) (by rfl) (fun w' hb' => ?_) ?_
                rotate_left
                · (try go_simp); (try with_reducible rfl)
                try simp only [Act.put, List.setIfInBounds_toArray, List.set_cons_zero, List.set_cons_succ]
                refine g_take (i := 19) (d := (some 44)) (v := ?_) rfl rfl (by kernel_rfl) (fun _ _ _ h => h) (by rfl) (fun w' hb' => ?_) ?_
                rotate_left
                · (try go_simp); (try with_reducible rfl)
                try simp only [Act.put, List.setIfInBounds_toArray, List.set_cons_zero, List.set_cons_succ]
                refine g_done (by kernel_rfl) ?_
                simp only [noP]
                go_wp2_with fail
                refine wp_noP ?_
                refine g_start (by kernel_rfl) ?_
                refine g_take (i := 0) (d := (some 79)) (v := ?_) rfl rfl (by kernel_rfl) (fun _ _ _ h => h) (by rfl) (fun w' hb' => ?_) ?_
                rotate_left
                · (try go_simp); (try with_reducible rfl)
                try simp only [Act.put, List.setIfInBounds_toArray, List.set_cons_zero, List.set_cons_succ]
                refine g_take (i := 1) (d := (some 80)) (v := ?_) rfl rfl (by kernel_rfl) (fun _ _ _ h => h) (by rfl) (fun w' hb' => ?_) ?_
                rotate_left
                · (try go_simp); (try with_reducible rfl)
                try simp only [Act.put, List.setIfInBounds_toArray, List.set_cons_zero, List.set_cons_succ]
                refine g_take (i := 2) (d := (some 81)) (v := ?_) rfl rfl (by kernel_rfl) (fun _ _ _ h => h) (by rfl) (fun w' hb' => ?_) ?_
                rotate_left
                · (try go_simp); (try with_reducible rfl)
                try simp only [Act.put, List.setIfInBounds_toArray, List.set_cons_zero, List.set_cons_succ]
                refine g_take (i := 3) (d := (some 82)) (v := ?_) rfl rfl (by kernel_rfl) (fun _ _ _ h => h) (by rfl) (fun w' hb' => ?_) ?_
                rotate_left
                · (try go_simp); (try with_reducible rfl)
                try simp only [Act.put, List.setIfInBounds_toArray, List.set_cons_zero, List.set_cons_succ]
                refine g_take (i := 4) (d := (some 83)) (v := ?_) rfl rfl (by kernel_rfl) (fun _ _ _ h => h) (by rfl) (fun w' hb' => ?_) ?_
                rotate_left
                · (try go_simp); (try with_reducible rfl)
                try simp only [Act.put, List.setIfInBounds_toArray, List.set_cons_zero, List.set_cons_succ]
                refine g_take (i := 5) (d := (some 84)) (v := ?_) rfl rfl (by kernel_rfl) (fun _ _ _ h => h) (by rfl) (fun w' hb' => ?_) ?_
                rotate_left
                · (try go_simp); (try with_reducible rfl)
                try simp only [Act.put, List.setIfInBounds_toArray, List.set_cons_zero, List.set_cons_succ]
                refine g_take (i := 6) (d := (some 85)) (v := ?_) rfl rfl (by kernel_rfl) (fun _ _ _ h => h) (by rfl) (fun w' hb' => ?_) ?_
                rotate_left
                · (try go_simp); (try with_reducible rfl)
                try simp only [Act.put, List.setIfInBounds_toArray, List.set_cons_zero, List.set_cons_succ]
                refine g_take (i := 7) (d := (some 86)) (v := ?_) rfl rfl (by kernel_rfl) (fun _ _ _ h => h) (by rfl) (fun w' hb' => ?_) ?_
                rotate_left
                · have zz := (hb'.cell (p := ⟨bb, ob, none⟩) hbb).trans b0; (try go_simp); (try with_reducible rfl)
                try simp only [Act.put, List.setIfInBounds_toArray, List.set_cons_zero, List.set_cons_succ]
                refine g_take (i := 8) (d := (some 87)) (v := ?_) rfl rfl (by kernel_rfl) (fun _ _ _ h => h) (by rfl) (fun w' hb' => ?_) ?_
                rotate_left
                · (try go_simp); (try with_reducible rfl)
                try simp only [Act.put, List.setIfInBounds_toArray, List.set_cons_zero, List.set_cons_succ]
                refine g_take (i := 9) (d := (some 88)) (v := ?_) rfl rfl (by kernel_rfl) (fun _ _ _ h => h) (by rfl) (fun w' hb' => ?_) ?_
                rotate_left
                · (try go_simp); (try with_reducible rfl)
                try simp only [Act.put, List.setIfInBounds_toArray, List.set_cons_zero, List.set_cons_succ]
                refine g_take (i := 10) (d := (some 89)) (v := ?_) rfl rfl (by kernel_rfl) (fun _ _ _ h => h) (by rfl) (fun w' hb' => ?_) ?_
                rotate_left
                · (try go_simp); (try with_reducible rfl)
                try simp only [Act.put, List.setIfInBounds_toArray, List.set_cons_zero, List.set_cons_succ]
                refine g_take (i := 11) (d := (some 90)) (v := ?_) rfl rfl (by kernel_rfl) (fun _ _ _ h => h) (by rfl) (fun w' hb' => ?_) ?_
                rotate_left
                · have zz := (hb'.cell (p := ⟨ba, oa, none⟩) hba).trans a0; (try go_simp); (try with_reducible rfl)
                try simp only [Act.put, List.setIfInBounds_toArray, List.set_cons_zero, List.set_cons_succ]
                refine g_take (i := 12) (d := (some 91)) (v := ?_) rfl rfl (by kernel_rfl) (fun _ _ _ h => h) (by rfl) (fun w' hb' => ?_) ?_
                rotate_left
                · (try go_simp); (try with_reducible rfl)
                try simp only [Act.put, List.setIfInBounds_toArray, List.set_cons_zero, List.set_cons_succ]
                refine g_take (i := 13) (d := (some 92)) (v := ?_) rfl rfl (by kernel_rfl) (fun _ _ _ h => h) (by rfl) (fun w' hb' => ?_) ?_
                rotate_left
                · (try go_simp); (try with_reducible rfl)
                try simp only [Act.put, List.setIfInBounds_toArray, List.set_cons_zero, List.set_cons_succ]
                refine g_take (i := 14) (d := (some 78)) (v := ?_) rfl rfl (by kernel_rfl) (fun _ _ _ h => h) (by rfl) (fun w' hb' => ?_) ?_
                rotate_left
                · (try go_simp); (try with_reducible rfl)
                try simp only [Act.put, List.setIfInBounds_toArray, List.set_cons_zero, List.set_cons_succ]
                refine g_done (by kernel_rfl) ?_
                simp only [noP]
                go_wp2_with fail
                refine wp_noP ?_
                have SH : TyS tyE wr wr.drew.drew.drew ∧ wr.drew.drew.drew.heap[w.heap.size + 2]? = some (.cells #[uu] 57 (0, 0)) := ⟨(TyS.refl _ _).below (Below.refl _ _).drew.drew.drew, US.out.q4⟩
                refine v_start 8 ((fun W => TyS tyE wr W ∧ W.heap[w.heap.size + 2]? = some (.cells #[uu] 57 (0, 0)))) (by kernel_rfl) ?_
                refine v_take (i := 0) (d := (some 93)) (v := ?_) rfl rfl (by kernel_rfl) (fun _ _ _ h => h) (by rfl) SH (fun w' hb' => ?_) ?_
                rotate_left
                · have zz := block_cell hb'.2 0; (try go_simp); (try with_reducible rfl)
                try simp only [Act.put, List.setIfInBounds_toArray, List.set_cons_zero, List.set_cons_succ]
                refine v_take (i := 1) (d := (some 94)) (v := ?_) rfl rfl (by kernel_rfl) (fun _ _ _ h => h) (by rfl) SH (fun w' hb' => ?_) ?_
                rotate_left
                · (try go_simp); (try with_reducible rfl)
                try simp only [Act.put, List.setIfInBounds_toArray, List.set_cons_zero, List.set_cons_succ]
                refine v_take (i := 2) (d := (some 95)) (v := ?_) rfl rfl (by kernel_rfl) (fun _ _ _ h => h) (by rfl) SH (fun w' hb' => ?_) ?_
                rotate_left
                · (try go_simp); (try with_reducible rfl)
                try simp only [Act.put, List.setIfInBounds_toArray, List.set_cons_zero, List.set_cons_succ]
                refine v_take (i := 3) (d := (some 96)) (v := ?_) rfl rfl (by kernel_rfl) (fun _ _ _ h => h) (by rfl) SH (fun w' hb' => ?_) ?_
                rotate_left
                · (try go_simp); (try with_reducible rfl)
                try simp only [Act.put, List.setIfInBounds_toArray, List.set_cons_zero, List.set_cons_succ]
                refine v_take (i := 4) (d := (some 97)) (v := ?_) rfl rfl (by kernel_rfl) (fun _ _ _ h => h) (by rfl) SH (fun w' hb' => ?_) ?_
                rotate_left
                · have zz := (ld_head US.out.rb hb'.1).1; (try go_simp); (try with_reducible rfl)
                try simp only [Act.put, List.setIfInBounds_toArray, List.set_cons_zero, List.set_cons_succ]
                refine v_run (i := 5) rfl (by kernel_rfl) (by kernel_rfl) (by rfl) (fun K hK => ?_)
                go_simp
                refine hK _ _ ⟨SH, ?_⟩
                clear hK K
                try simp only [Act.put, List.setIfInBounds_toArray, List.set_cons_zero, List.set_cons_succ]
                refine v_run (i := 6) rfl (by kernel_rfl) (by kernel_rfl) (by rfl) (fun K hK => ?_)
                go_simp
                have bA := ((Below.refl wr.heap.size wr).alloc (Nat.le_refl _) (.cells #[.string (str xb.key), .int .i64 0, .int .i64 0, .string (str [])] 68)).drew.drew.drew
                have q8 := heap_alloc_new wr (.cells #[.string (str xb.key), .int .i64 0, .int .i64 0, .string (str [])] 68)
                have ownA := own_keep US.out.own bA
                refine hK _ _ (and_keep ⟨(TyS.refl _ _).below bA, (bA.block _ hl4).trans US.out.q4⟩ fun SH2 => ?_)
                clear hK K SH
                have SH := SH2
                clear SH2
                try simp only [Act.put, List.setIfInBounds_toArray, List.set_cons_zero, List.set_cons_succ]
                refine v_run (i := 7) rfl (by kernel_rfl) (by kernel_rfl) (by rfl) (fun K hK => ?_)
                obtain ⟨v9, W9, hrun, own9, gr⟩ := app_ed _ _ _ _ ownA _ ((⟨xb.key, eV0⟩ : Ed)) q8 (by have := bA.size; omega) (by have := HL.out; omega)
                obtain ⟨vo, vn, vc, rfl⟩ := own_slice own9
                obtain ⟨q9, LA9, LB9, US9⟩ := us_app US.out bA (Nat.le_refl _) own9 gr
                refine op_append (.tmp 93) (.tmp 99) 57 57 rfl rfl _ _ (.slice vo vn vc) W9 rfl rfl hrun ?_
                refine hK _ _ (and_keep ⟨SH.1.grown ownA (.inl rfl) gr, q9⟩ fun SH2 => ?_)
                clear hK K SH hrun gr ownA
                have SH := SH2
                clear SH2
                try simp only [Act.put, List.setIfInBounds_toArray, List.set_cons_zero, List.set_cons_succ]
                refine v_last (i := 8) rfl (by kernel_rfl) (by kernel_rfl) (by kernel_rfl) (by rfl) (fun K hK => ?_)
                have y9 := block_cell q9 0
                have f9 := fun i => block_frozen q9 i
                go_simp
                refine hK _ _ ?_
                clear hK K y9 f9
                simp only [noP]
                go_wp2_with ((with_reducible refine wpList_run (o := ⟨some 102, _, _, _, _, _⟩) rfl (.slice (slT (some ⟨bb, ob, none⟩) cb) (nb - 1) (cb - 1)) (slice1_op (.tmp 101) _ rfl _ nb cb rfl rfl hnb hcb) ?_))
                exact ⟨⟨_, _, _, _, _, _, rfl, rfl, _, _, _, _, Lib.hid US9.tb, Lib.hid (by rw [← HE2.out]; simp), Lib.hid (by have := HL.out; simp; omega)⟩, by simp [lenV]; omega⟩
              | false =>
                cases h3 : vB xa.v xb.v with
                | true =>
                  have HE2 := Lib.hid (show acc ++ undoM A B = UL by rw [← um_eq h1 h2 h3]; exact HE.out)
                  have HV := Lib.hid (show vB xa.v xb.v = !false from h3)
                  rw [h1] at fL
                  rw [h2] at fR
                  clear h1 h2 h3
                  go_wp2_with fail
                  refine wp_noP ?_
                  refine g_start (by kernel_rfl) ?_
                  refine g_take (i := 0) (d := (some 45)) (v := ?_) rfl rfl (by kernel_rfl) (fun _ _ _ h => h) (by rfl) (fun w' hb' => ?_) ?_
                  rotate_left
                  · (try go_simp); (try with_reducible rfl)
                  try simp only [Act.put, List.setIfInBounds_toArray, List.set_cons_zero, List.set_cons_succ]
                  refine g_take (i := 1) (d := (some 46)) (v := ?_) rfl rfl (by kernel_rfl) (fun _ _ _ h => h) (by rfl) (fun w' hb' => ?_) ?_
                  rotate_left
                  · (try go_simp); (try with_reducible rfl)
                  try simp only [Act.put, List.setIfInBounds_toArray, List.set_cons_zero, List.set_cons_succ]
                  refine g_take (i := 2) (d := (some 47)) (v := ?_) rfl rfl (by kernel_rfl) (fun _ _ _ h => h) (by rfl) (fun w' hb' => ?_) ?_
                  rotate_left
                  · (try go_simp); (try with_reducible rfl)
                  try simp only [Act.put, List.setIfInBounds_toArray, List.set_cons_zero, List.set_cons_succ]
                  refine g_take (i := 3) (d := (some 48)) (v := ?_) rfl rfl (by kernel_rfl) (fun _ _ _ h => h) (by rfl) (fun w' hb' => ?_) ?_
                  rotate_left
                  · (try go_simp); (try with_reducible rfl)
                  try simp only [Act.put, List.setIfInBounds_toArray, List.set_cons_zero, List.set_cons_succ]
                  refine g_take (i := 4) (d := (some 49)) (v := ?_) rfl rfl (by kernel_rfl) (fun _ _ _ h => h) (by rfl) (fun w' hb' => ?_) ?_
                  rotate_left
                  · (try go_simp); (try with_reducible rfl)
                  try simp only [Act.put, List.setIfInBounds_toArray, List.set_cons_zero, List.set_cons_succ]
                  refine g_take (i := 5) (d := (some 50)) (v := ?_) rfl rfl (by kernel_rfl) (fun _ _ _ h => h) (by rfl) (fun w' hb' => ?_) ?_
                  rotate_left
                  · (try go_simp); (try with_reducible rfl)
                  try simp only [Act.put, List.setIfInBounds_toArray, List.set_cons_zero, List.set_cons_succ]
                  refine g_take (i := 6) (d := (some 51)) (v := ?_) rfl rfl (by kernel_rfl) (fun _ _ _ h => h) (by rfl) (fun w' hb' => ?_) ?_
                  rotate_left
                  · (try go_simp); (try with_reducible rfl)
                  try simp only [Act.put, List.setIfInBounds_toArray, List.set_cons_zero, List.set_cons_succ]
                  refine g_take (i := 7) (d := (some 52)) (v := ?_) rfl rfl (by kernel_rfl) (fun _ _ _ h => h) (by rfl) (fun w' hb' => ?_) ?_
                  rotate_left
                  · (try go_simp); (try with_reducible rfl)
                  try simp only [Act.put, List.setIfInBounds_toArray, List.set_cons_zero, List.set_cons_succ]
                  refine g_take (i := 8) (d := (some 53)) (v := ?_) rfl rfl (by kernel_rfl) (fun _ _ _ h => h) (by rfl) (fun w' hb' => ?_) ?_
                  rotate_left
                  · (try go_simp); (try with_reducible rfl)
                  try simp only [Act.put, List.setIfInBounds_toArray, List.set_cons_zero, List.set_cons_succ]
                  refine g_take (i := 9) (d := (some 54)) (v := ?_) rfl rfl (by kernel_rfl) (fun _ _ _ h => h) (by rfl) (fun w' hb' => ?_) ?_
                  rotate_left
                  · (try go_simp); (try with_reducible rfl)
                  try simp only [Act.put, List.setIfInBounds_toArray, List.set_cons_zero, List.set_cons_succ]
                  refine g_take (i := 10) (d := (some 55)) (v := ?_) rfl rfl (by kernel_rfl) (fun _ _ _ h => h) (by rfl) (fun w' hb' => ?_) ?_
                  rotate_left
                  · (try go_simp); (try with_reducible rfl)
                  try simp only [Act.put, List.setIfInBounds_toArray, List.set_cons_zero, List.set_cons_succ]
                  refine g_take (i := 11) (d := (some 56)) (v := ?_) rfl rfl (by kernel_rfl) (fun _ _ _ h => h) (by rfl) (fun w' hb' => ?_) ?_
                  rotate_left
                  · have zz := (hb'.cell (p := ⟨ba, oa, none⟩) hba).trans a0; (try go_simp); (try with_reducible rfl)
                  try simp only [Act.put, List.setIfInBounds_toArray, List.set_cons_zero, List.set_cons_succ]
                  refine g_take (i := 12) (d := (some 57)) (v := ?_) rfl rfl (by kernel_rfl) (fun _ _ _ h => h) (by rfl) (fun w' hb' => ?_) ?_
                  rotate_left
                  · (try go_simp); (try with_reducible rfl)
                  try simp only [Act.put, List.setIfInBounds_toArray, List.set_cons_zero, List.set_cons_succ]
                  refine g_take (i := 13) (d := (some 58)) (v := ?_) rfl rfl (by kernel_rfl) (fun _ _ _ h => h) (by rfl) (fun w' hb' => ?_) ?_
                  rotate_left
                  · (try go_simp); (try with_reducible rfl)
                  try simp only [Act.put, List.setIfInBounds_toArray, List.set_cons_zero, List.set_cons_succ]
                  refine g_take (i := 14) (d := (some 59)) (v := ?_) rfl rfl (by kernel_rfl) (fun _ _ _ h => h) (by rfl) (fun w' hb' => ?_) ?_
                  rotate_left
                  · (try go_simp); (try with_reducible rfl)
                  try simp only [Act.put, List.setIfInBounds_toArray, List.set_cons_zero, List.set_cons_succ]
                  refine g_take (i := 15) (d := (some 60)) (v := ?_) rfl rfl (by kernel_rfl) (fun _ _ _ h => h) (by rfl) (fun w' hb' => ?_) ?_
                  rotate_left
                  · have zz := (hb'.cell (p := ⟨bb, ob, none⟩) hbb).trans b0; (try go_simp); (try with_reducible rfl)
                  try simp only [Act.put, List.setIfInBounds_toArray, List.set_cons_zero, List.set_cons_succ]
                  refine g_take (i := 16) (d := (some 61)) (v := ?_) rfl rfl (by kernel_rfl) (fun _ _ _ h => h) (by rfl) (fun w' hb' => ?_) ?_
                  rotate_left
                  · (try go_simp); (try with_reducible rfl)
                  try simp only [Act.put, List.setIfInBounds_toArray, List.set_cons_zero, List.set_cons_succ]
                  refine g_take (i := 17) (d := (some 62)) (v := ?_) rfl rfl (by kernel_rfl) (fun _ _ _ h => h) (by rfl) (fun w' hb' => ?_) ?_
                  rotate_left
                  · (try go_simp); (try with_reducible rfl)
                  try simp only [Act.put, List.setIfInBounds_toArray, List.set_cons_zero, List.set_cons_succ]
                  refine g_take (i := 18) (d := (some 63)) (v := ?_) rfl rfl (by kernel_rfl) (fun _ _ _ h => h) (by rfl) (fun w' hb' => ?_) ?_
                  rotate_left
                  · (try go_simp); (try with_reducible rfl)
                  try simp only [Act.put, List.setIfInBounds_toArray, List.set_cons_zero, List.set_cons_succ]
                  refine g_take (i := 19) (d := (some 44)) (v := ?_) rfl rfl (by kernel_rfl) (fun _ _ _ h => h) (by rfl) (fun w' hb' => ?_) ?_
                  rotate_left
                  · (try go_simp); (try with_reducible rfl)
                  try simp only [Act.put, List.setIfInBounds_toArray, List.set_cons_zero, List.set_cons_succ]
                  refine g_done (by kernel_rfl) ?_
                  simp only [noP]
                  go_wp2_with fail
                  refine wp_noP ?_
                  refine g_start (by kernel_rfl) ?_
                  refine g_take (i := 0) (d := (some 79)) (v := ?_) rfl rfl (by kernel_rfl) (fun _ _ _ h => h) (by rfl) (fun w' hb' => ?_) ?_
                  rotate_left
                  · (try go_simp); (try with_reducible rfl)
                  try simp only [Act.put, List.setIfInBounds_toArray, List.set_cons_zero, List.set_cons_succ]
                  refine g_take (i := 1) (d := (some 80)) (v := ?_) rfl rfl (by kernel_rfl) (fun _ _ _ h => h) (by rfl) (fun w' hb' => ?_) ?_
                  rotate_left
                  · (try go_simp); (try with_reducible rfl)
                  try simp only [Act.put, List.setIfInBounds_toArray, List.set_cons_zero, List.set_cons_succ]
                  refine g_take (i := 2) (d := (some 81)) (v := ?_) rfl rfl (by kernel_rfl) (fun _ _ _ h => h) (by rfl) (fun w' hb' => ?_) ?_
                  rotate_left
                  · (try go_simp); (try with_reducible rfl)
                  try simp only [Act.put, List.setIfInBounds_toArray, List.set_cons_zero, List.set_cons_succ]
                  refine g_take (i := 3) (d := (some 82)) (v := ?_) rfl rfl (by kernel_rfl) (fun _ _ _ h => h) (by rfl) (fun w' hb' => ?_) ?_
                  rotate_left
                  · (try go_simp); (try with_reducible rfl)
                  try simp only [Act.put, List.setIfInBounds_toArray, List.set_cons_zero, List.set_cons_succ]
                  refine g_take (i := 4) (d := (some 83)) (v := ?_) rfl rfl (by kernel_rfl) (fun _ _ _ h => h) (by rfl) (fun w' hb' => ?_) ?_
                  rotate_left
                  · (try go_simp); (try with_reducible rfl)
                  try simp only [Act.put, List.setIfInBounds_toArray, List.set_cons_zero, List.set_cons_succ]
                  refine g_take (i := 5) (d := (some 84)) (v := ?_) rfl rfl (by kernel_rfl) (fun _ _ _ h => h) (by rfl) (fun w' hb' => ?_) ?_
                  rotate_left
                  · (try go_simp); (try with_reducible rfl)
                  try simp only [Act.put, List.setIfInBounds_toArray, List.set_cons_zero, List.set_cons_succ]
                  refine g_take (i := 6) (d := (some 85)) (v := ?_) rfl rfl (by kernel_rfl) (fun _ _ _ h => h) (by rfl) (fun w' hb' => ?_) ?_
                  rotate_left
                  · (try go_simp); (try with_reducible rfl)
                  try simp only [Act.put, List.setIfInBounds_toArray, List.set_cons_zero, List.set_cons_succ]
                  refine g_take (i := 7) (d := (some 86)) (v := ?_) rfl rfl (by kernel_rfl) (fun _ _ _ h => h) (by rfl) (fun w' hb' => ?_) ?_
                  rotate_left
                  · have zz := (hb'.cell (p := ⟨bb, ob, none⟩) hbb).trans b0; (try go_simp); (try with_reducible rfl)
                  try simp only [Act.put, List.setIfInBounds_toArray, List.set_cons_zero, List.set_cons_succ]
                  refine g_take (i := 8) (d := (some 87)) (v := ?_) rfl rfl (by kernel_rfl) (fun _ _ _ h => h) (by rfl) (fun w' hb' => ?_) ?_
                  rotate_left
                  · (try go_simp); (try with_reducible rfl)
                  try simp only [Act.put, List.setIfInBounds_toArray, List.set_cons_zero, List.set_cons_succ]
                  refine g_take (i := 9) (d := (some 88)) (v := ?_) rfl rfl (by kernel_rfl) (fun _ _ _ h => h) (by rfl) (fun w' hb' => ?_) ?_
                  rotate_left
                  · (try go_simp); (try with_reducible rfl)
                  try simp only [Act.put, List.setIfInBounds_toArray, List.set_cons_zero, List.set_cons_succ]
                  refine g_take (i := 10) (d := (some 89)) (v := ?_) rfl rfl (by kernel_rfl) (fun _ _ _ h => h) (by rfl) (fun w' hb' => ?_) ?_
                  rotate_left
                  · (try go_simp); (try with_reducible rfl)
                  try simp only [Act.put, List.setIfInBounds_toArray, List.set_cons_zero, List.set_cons_succ]
                  refine g_take (i := 11) (d := (some 90)) (v := ?_) rfl rfl (by kernel_rfl) (fun _ _ _ h => h) (by rfl) (fun w' hb' => ?_) ?_
                  rotate_left
                  · have zz := (hb'.cell (p := ⟨ba, oa, none⟩) hba).trans a0; (try go_simp); (try with_reducible rfl)
                  try simp only [Act.put, List.setIfInBounds_toArray, List.set_cons_zero, List.set_cons_succ]
                  refine g_take (i := 12) (d := (some 91)) (v := ?_) rfl rfl (by kernel_rfl) (fun _ _ _ h => h) (by rfl) (fun w' hb' => ?_) ?_
                  rotate_left
                  · (try go_simp); (try with_reducible rfl)
                  try simp only [Act.put, List.setIfInBounds_toArray, List.set_cons_zero, List.set_cons_succ]
                  refine g_take (i := 13) (d := (some 92)) (v := ?_) rfl rfl (by kernel_rfl) (fun _ _ _ h => h) (by rfl) (fun w' hb' => ?_) ?_
                  rotate_left
                  · (try go_simp); (try with_reducible rfl)
                  try simp only [Act.put, List.setIfInBounds_toArray, List.set_cons_zero, List.set_cons_succ]
                  refine g_take (i := 14) (d := (some 78)) (v := ?_) rfl rfl (by kernel_rfl) (fun _ _ _ h => h) (by rfl) (fun w' hb' => ?_) ?_
                  rotate_left
                  · (try go_simp); (try with_reducible rfl)
                  try simp only [Act.put, List.setIfInBounds_toArray, List.set_cons_zero, List.set_cons_succ]
                  refine g_done (by kernel_rfl) ?_
                  simp only [noP]
                  go_wp2_with fail
                  refine wp_noP ?_
                  refine g_start (by kernel_rfl) ?_
                  refine g_take (i := 0) (d := (some 19)) (v := ?_) rfl rfl (by kernel_rfl) (fun _ _ _ h => h) (by rfl) (fun w' hb' => ?_) ?_
                  rotate_left
                  · (try go_simp); (try with_reducible rfl)
                  try simp only [Act.put, List.setIfInBounds_toArray, List.set_cons_zero, List.set_cons_succ]
                  refine g_take (i := 1) (d := (some 20)) (v := ?_) rfl rfl (by kernel_rfl) (fun _ _ _ h => h) (by rfl) (fun w' hb' => ?_) ?_
                  rotate_left
                  · (try go_simp); (try with_reducible rfl)
                  try simp only [Act.put, List.setIfInBounds_toArray, List.set_cons_zero, List.set_cons_succ]
                  refine g_take (i := 2) (d := (some 21)) (v := ?_) rfl rfl (by kernel_rfl) (fun _ _ _ h => h) (by rfl) (fun w' hb' => ?_) ?_
                  rotate_left
                  · (try go_simp); (try with_reducible rfl)
                  try simp only [Act.put, List.setIfInBounds_toArray, List.set_cons_zero, List.set_cons_succ]
                  refine g_take (i := 3) (d := (some 22)) (v := ?_) rfl rfl (by kernel_rfl) (fun _ _ _ h => h) (by rfl) (fun w' hb' => ?_) ?_
                  rotate_left
                  · have z1 := (hb'.cell (p := ⟨ba, oa + 1, none⟩) hba).trans a1; have z2 := (hb'.cell (p := ⟨ba, oa + 2, none⟩) hba).trans a2; have z3 := (hb'.cell (p := ⟨ba, oa + 3, none⟩) hba).trans a3; (try go_simp); (try with_reducible rfl)
                  try simp only [Act.put, List.setIfInBounds_toArray, List.set_cons_zero, List.set_cons_succ]
                  refine g_take (i := 4) (d := (some 23)) (v := ?_) rfl rfl (by kernel_rfl) (fun _ _ _ h => h) (by rfl) (fun w' hb' => ?_) ?_
                  rotate_left
                  · (try go_simp); (try with_reducible rfl)
                  try simp only [Act.put, List.setIfInBounds_toArray, List.set_cons_zero, List.set_cons_succ]
                  refine g_take (i := 5) (d := (some 24)) (v := ?_) rfl rfl (by kernel_rfl) (fun _ _ _ h => h) (by rfl) (fun w' hb' => ?_) ?_
                  rotate_left
                  · (try go_simp); (try with_reducible rfl)
                  try simp only [Act.put, List.setIfInBounds_toArray, List.set_cons_zero, List.set_cons_succ]
                  refine g_take (i := 6) (d := (some 25)) (v := ?_) rfl rfl (by kernel_rfl) (fun _ _ _ h => h) (by rfl) (fun w' hb' => ?_) ?_
                  rotate_left
                  · (try go_simp); (try with_reducible rfl)
                  try simp only [Act.put, List.setIfInBounds_toArray, List.set_cons_zero, List.set_cons_succ]
                  refine g_take (i := 7) (d := (some 26)) (v := ?_) rfl rfl (by kernel_rfl) (fun _ _ _ h => h) (by rfl) (fun w' hb' => ?_) ?_
                  rotate_left
                  · have z1 := (hb'.cell (p := ⟨bb, ob + 1, none⟩) hbb).trans b1; have z2 := (hb'.cell (p := ⟨bb, ob + 2, none⟩) hbb).trans b2; have z3 := (hb'.cell (p := ⟨bb, ob + 3, none⟩) hbb).trans b3; (try go_simp); (try with_reducible rfl)
                  try simp only [Act.put, List.setIfInBounds_toArray, List.set_cons_zero, List.set_cons_succ]
                  refine g_take (i := 8) (d := (some 27)) (v := ?_) rfl rfl (by kernel_rfl) (fun _ _ _ h => h) (by rfl) (fun w' hb' => ?_) ?_
                  rotate_left
                  · (refine valE_neq_op _ _ (.tmp 22) (.tmp 26) 43 xa.v xb.v false HV.out ?_ ?_ ?_ _ <;> rfl); (try go_simp); (try with_reducible rfl)
                  try simp only [Act.put, List.setIfInBounds_toArray, List.set_cons_zero, List.set_cons_succ]
                  refine g_done (by kernel_rfl) ?_
                  simp only [noP]
                  go_wp2_with fail
                  refine wp_noP ?_
                  refine g_start (by kernel_rfl) ?_
                  refine g_take (i := 0) (d := (some 40)) (v := ?_) rfl rfl (by kernel_rfl) (fun _ _ _ h => h) (by rfl) (fun w' hb' => ?_) ?_
                  rotate_left
                  · (try go_simp); (try with_reducible rfl)
                  try simp only [Act.put, List.setIfInBounds_toArray, List.set_cons_zero, List.set_cons_succ]
                  refine g_take (i := 1) (d := (some 41)) (v := ?_) rfl rfl (by kernel_rfl) (fun _ _ _ h => h) (by rfl) (fun w' hb' => ?_) ?_
                  rotate_left
                  · (refine slice1_op (.tmp 40) (.const (.int .i64 1)) ?_ (some ⟨ba, oa, none⟩) na ca ?_ ?_ hna hca <;> rfl); (try go_simp); (try with_reducible rfl)
                  try simp only [Act.put, List.setIfInBounds_toArray, List.set_cons_zero, List.set_cons_succ]
                  refine g_take (i := 2) (d := (some 42)) (v := ?_) rfl rfl (by kernel_rfl) (fun _ _ _ h => h) (by rfl) (fun w' hb' => ?_) ?_
                  rotate_left
                  · (try go_simp); (try with_reducible rfl)
                  try simp only [Act.put, List.setIfInBounds_toArray, List.set_cons_zero, List.set_cons_succ]
                  refine g_take (i := 3) (d := (some 43)) (v := ?_) rfl rfl (by kernel_rfl) (fun _ _ _ h => h) (by rfl) (fun w' hb' => ?_) ?_
                  rotate_left
                  · (refine slice1_op (.tmp 42) (.const (.int .i64 1)) ?_ (some ⟨bb, ob, none⟩) nb cb ?_ ?_ hnb hcb <;> rfl); (try go_simp); (try with_reducible rfl)
                  try simp only [Act.put, List.setIfInBounds_toArray, List.set_cons_zero, List.set_cons_succ]
                  refine g_take (i := 4) (d := (some 6)) (v := ?_) rfl rfl (by kernel_rfl) (fun _ _ _ h => h) (by rfl) (fun w' hb' => ?_) ?_
                  rotate_left
                  · (try go_simp); (try with_reducible rfl)
                  try simp only [Act.put, List.setIfInBounds_toArray, List.set_cons_zero, List.set_cons_succ]
                  refine g_take (i := 5) (d := (some 7)) (v := ?_) rfl rfl (by kernel_rfl) (fun _ _ _ h => h) (by rfl) (fun w' hb' => ?_) ?_
                  rotate_left
                  · (try go_simp); (try with_reducible rfl)
                  try simp only [Act.put, List.setIfInBounds_toArray, List.set_cons_zero, List.set_cons_succ]
                  refine g_done (by kernel_rfl) ?_
                  simp only [noP]
                  go_wp2_with fail
                  exact ⟨⟨_, _, _, _, _, _, rfl, rfl, _, _, _, _, Lib.hid (US.out.drew.drew.drew.drew.ta.tb), HE2, Lib.hid (by have := HL.out; omega)⟩, by simp [lenV]; omega⟩
                | false =>
                  have HE2 := Lib.hid (show acc ++ (⟨xa.key, xa.v⟩ :: undoM A B) = UL by rw [← um_ne h1 h2 h3]; exact HE.out)
                  have HV := Lib.hid (show vB xa.v xb.v = !true from h3)
                  rw [h1] at fL
                  rw [h2] at fR
                  clear h1 h2 h3
                  go_wp2_with fail
                  refine wp_noP ?_
                  refine g_start (by kernel_rfl) ?_
                  refine g_take (i := 0) (d := (some 45)) (v := ?_) rfl rfl (by kernel_rfl) (fun _ _ _ h => h) (by rfl) (fun w' hb' => ?_) ?_
                  rotate_left
                  · (try go_simp); (try with_reducible rfl)
                  try simp only [Act.put, List.setIfInBounds_toArray, List.set_cons_zero, List.set_cons_succ]
                  refine g_take (i := 1) (d := (some 46)) (v := ?_) rfl rfl (by kernel_rfl) (fun _ _ _ h => h) (by rfl) (fun w' hb' => ?_) ?_
                  rotate_left
                  · (try go_simp); (try with_reducible rfl)
                  try simp only [Act.put, List.setIfInBounds_toArray, List.set_cons_zero, List.set_cons_succ]
                  refine g_take (i := 2) (d := (some 47)) (v := ?_) rfl rfl (by kernel_rfl) (fun _ _ _ h => h) (by rfl) (fun w' hb' => ?_) ?_
                  rotate_left
                  · (try go_simp); (try with_reducible rfl)
                  try simp only [Act.put, List.setIfInBounds_toArray, List.set_cons_zero, List.set_cons_succ]
                  refine g_take (i := 3) (d := (some 48)) (v := ?_) rfl rfl (by kernel_rfl) (fun _ _ _ h => h) (by rfl) (fun w' hb' => ?_) ?_
                  rotate_left
                  · (try go_simp); (try with_reducible rfl)
                  try simp only [Act.put, List.setIfInBounds_toArray, List.set_cons_zero, List.set_cons_succ]
                  refine g_take (i := 4) (d := (some 49)) (v := ?_) rfl rfl (by kernel_rfl) (fun _ _ _ h => h) (by rfl) (fun w' hb' => ?_) ?_
                  rotate_left
                  · (try go_simp); (try with_reducible rfl)
                  try simp only [Act.put, List.setIfInBounds_toArray, List.set_cons_zero, List.set_cons_succ]
                  refine g_take (i := 5) (d := (some 50)) (v := ?_) rfl rfl (by kernel_rfl) (fun _ _ _ h => h) (by rfl) (fun w' hb' => ?_) ?_
                  rotate_left
                  · (try go_simp); (try with_reducible rfl)
                  try simp only [Act.put, List.setIfInBounds_toArray, List.set_cons_zero, List.set_cons_succ]
                  refine g_take (i := 6) (d := (some 51)) (v := ?_) rfl rfl (by kernel_rfl) (fun _ _ _ h => h) (by rfl) (fun w' hb' => ?_) ?_
                  rotate_left
                  · (try go_simp); (try with_reducible rfl)
                  try simp only [Act.put, List.setIfInBounds_toArray, List.set_cons_zero, List.set_cons_succ]
                  refine g_take (i := 7) (d := (some 52)) (v := ?_) rfl rfl (by kernel_rfl) (fun _ _ _ h => h) (by rfl) (fun w' hb' => ?_) ?_
                  rotate_left
                  · (try go_simp); (try with_reducible rfl)
                  try simp only [Act.put, List.setIfInBounds_toArray, List.set_cons_zero, List.set_cons_succ]
                  refine g_take (i := 8) (d := (some 53)) (v := ?_) rfl rfl (by kernel_rfl) (fun _ _ _ h => h) (by rfl) (fun w' hb' => ?_) ?_
                  rotate_left
                  · (try go_simp); (try with_reducible rfl)
                  try simp only [Act.put, List.setIfInBounds_toArray, List.set_cons_zero, List.set_cons_succ]
                  refine g_take (i := 9) (d := (some 54)) (v := ?_) rfl rfl (by kernel_rfl) (fun _ _ _ h => h) (by rfl) (fun w' hb' => ?_) ?_
                  rotate_left
                  · (try go_simp); (try with_reducible rfl)
                  try simp only [Act.put, List.setIfInBounds_toArray, List.set_cons_zero, List.set_cons_succ]
                  refine g_take (i := 10) (d := (some 55)) (v := ?_) rfl rfl (by kernel_rfl) (fun _ _ _ h => h) (by rfl) (fun w' hb' => ?_) ?_
                  rotate_left
                  · (try go_simp); (try with_reducible rfl)
                  try simp only [Act.put, List.setIfInBounds_toArray, List.set_cons_zero, List.set_cons_succ]
                  refine g_take (i := 11) (d := (some 56)) (v := ?_) rfl rfl (by kernel_rfl) (fun _ _ _ h => h) (by rfl) (fun w' hb' => ?_) ?_
                  rotate_left
                  · have zz := (hb'.cell (p := ⟨ba, oa, none⟩) hba).trans a0; (try go_simp); (try with_reducible rfl)
                  try simp only [Act.put, List.setIfInBounds_toArray, List.set_cons_zero, List.set_cons_succ]
                  refine g_take (i := 12) (d := (some 57)) (v := ?_) rfl rfl (by kernel_rfl) (fun _ _ _ h => h) (by rfl) (fun w' hb' => ?_) ?_
                  rotate_left
                  · (try go_simp); (try with_reducible rfl)
                  try simp only [Act.put, List.setIfInBounds_toArray, List.set_cons_zero, List.set_cons_succ]
                  refine g_take (i := 13) (d := (some 58)) (v := ?_) rfl rfl (by kernel_rfl) (fun _ _ _ h => h) (by rfl) (fun w' hb' => ?_) ?_
                  rotate_left
                  · (try go_simp); (try with_reducible rfl)
                  try simp only [Act.put, List.setIfInBounds_toArray, List.set_cons_zero, List.set_cons_succ]
                  refine g_take (i := 14) (d := (some 59)) (v := ?_) rfl rfl (by kernel_rfl) (fun _ _ _ h => h) (by rfl) (fun w' hb' => ?_) ?_
                  rotate_left
                  · (try go_simp); (try with_reducible rfl)
                  try simp only [Act.put, List.setIfInBounds_toArray, List.set_cons_zero, List.set_cons_succ]
                  refine g_take (i := 15) (d := (some 60)) (v := ?_) rfl rfl (by kernel_rfl) (fun _ _ _ h => h) (by rfl) (fun w' hb' => ?_) ?_
                  rotate_left
                  · have zz := (hb'.cell (p := ⟨bb, ob, none⟩) hbb).trans b0; (try go_simp); (try with_reducible rfl)
                  try simp only [Act.put, List.setIfInBounds_toArray, List.set_cons_zero, List.set_cons_succ]
                  refine g_take (i := 16) (d := (some 61)) (v := ?_) rfl rfl (by kernel_rfl) (fun _ _ _ h => h) (by rfl) (fun w' hb' => ?_) ?_
                  rotate_left
                  · (try go_simp); (try with_reducible rfl)
                  try simp only [Act.put, List.setIfInBounds_toArray, List.set_cons_zero, List.set_cons_succ]
                  refine g_take (i := 17) (d := (some 62)) (v := ?_) rfl rfl (by kernel_rfl) (fun _ _ _ h => h) (by rfl) (fun w' hb' => ?_) ?_
                  rotate_left
                  · (try go_simp); (try with_reducible rfl)
                  try simp only [Act.put, List.setIfInBounds_toArray, List.set_cons_zero, List.set_cons_succ]
                  refine g_take (i := 18) (d := (some 63)) (v := ?_) rfl rfl (by kernel_rfl) (fun _ _ _ h => h) (by rfl) (fun w' hb' => ?_) ?_
                  rotate_left
                  · (try go_simp); (try with_reducible rfl)
                  try simp only [Act.put, List.setIfInBounds_toArray, List.set_cons_zero, List.set_cons_succ]
                  refine g_take (i := 19) (d := (some 44)) (v := ?_) rfl rfl (by kernel_rfl) (fun _ _ _ h => h) (by rfl) (fun w' hb' => ?_) ?_
                  rotate_left
                  · (try go_simp); (try with_reducible rfl)
                  try simp only [Act.put, List.setIfInBounds_toArray, List.set_cons_zero, List.set_cons_succ]
                  refine g_done (by kernel_rfl) ?_
                  simp only [noP]
                  go_wp2_with fail
                  refine wp_noP ?_
                  refine g_start (by kernel_rfl) ?_
                  refine g_take (i := 0) (d := (some 79)) (v := ?_) rfl rfl (by kernel_rfl) (fun _ _ _ h => h) (by rfl) (fun w' hb' => ?_) ?_
                  rotate_left
                  · (try go_simp); (try with_reducible rfl)
                  try simp only [Act.put, List.setIfInBounds_toArray, List.set_cons_zero, List.set_cons_succ]
                  refine g_take (i := 1) (d := (some 80)) (v := ?_) rfl rfl (by kernel_rfl) (fun _ _ _ h => h) (by rfl) (fun w' hb' => ?_) ?_
                  rotate_left
                  · (try go_simp); (try with_reducible rfl)
                  try simp only [Act.put, List.setIfInBounds_toArray, List.set_cons_zero, List.set_cons_succ]
                  refine g_take (i := 2) (d := (some 81)) (v := ?_) rfl rfl (by kernel_rfl) (fun _ _ _ h => h) (by rfl) (fun w' hb' => ?_) ?_
                  rotate_left
                  · (try go_simp); (try with_reducible rfl)
                  try simp only [Act.put, List.setIfInBounds_toArray, List.set_cons_zero, List.set_cons_succ]
                  refine g_take (i := 3) (d := (some 82)) (v := ?_) rfl rfl (by kernel_rfl) (fun _ _ _ h => h) (by rfl) (fun w' hb' => ?_) ?_
                  rotate_left
                  · (try go_simp); (try with_reducible rfl)
                  try simp only [Act.put, List.setIfInBounds_toArray, List.set_cons_zero, List.set_cons_succ]
                  refine g_take (i := 4) (d := (some 83)) (v := ?_) rfl rfl (by kernel_rfl) (fun _ _ _ h => h) (by rfl) (fun w' hb' => ?_) ?_
                  rotate_left
                  · (try go_simp); (try with_reducible rfl)
                  try simp only [Act.put, List.setIfInBounds_toArray, List.set_cons_zero, List.set_cons_succ]
                  refine g_take (i := 5) (d := (some 84)) (v := ?_) rfl rfl (by kernel_rfl) (fun _ _ _ h => h) (by rfl) (fun w' hb' => ?_) ?_
                  rotate_left
                  · (try go_simp); (try with_reducible rfl)
                  try simp only [Act.put, List.setIfInBounds_toArray, List.set_cons_zero, List.set_cons_succ]
                  refine g_take (i := 6) (d := (some 85)) (v := ?_) rfl rfl (by kernel_rfl) (fun _ _ _ h => h) (by rfl) (fun w' hb' => ?_) ?_
                  rotate_left
                  · (try go_simp); (try with_reducible rfl)
                  try simp only [Act.put, List.setIfInBounds_toArray, List.set_cons_zero, List.set_cons_succ]
                  refine g_take (i := 7) (d := (some 86)) (v := ?_) rfl rfl (by kernel_rfl) (fun _ _ _ h => h) (by rfl) (fun w' hb' => ?_) ?_
                  rotate_left
                  · have zz := (hb'.cell (p := ⟨bb, ob, none⟩) hbb).trans b0; (try go_simp); (try with_reducible rfl)
                  try simp only [Act.put, List.setIfInBounds_toArray, List.set_cons_zero, List.set_cons_succ]
                  refine g_take (i := 8) (d := (some 87)) (v := ?_) rfl rfl (by kernel_rfl) (fun _ _ _ h => h) (by rfl) (fun w' hb' => ?_) ?_
                  rotate_left
                  · (try go_simp); (try with_reducible rfl)
                  try simp only [Act.put, List.setIfInBounds_toArray, List.set_cons_zero, List.set_cons_succ]
                  refine g_take (i := 9) (d := (some 88)) (v := ?_) rfl rfl (by kernel_rfl) (fun _ _ _ h => h) (by rfl) (fun w' hb' => ?_) ?_
                  rotate_left
                  · (try go_simp); (try with_reducible rfl)
                  try simp only [Act.put, List.setIfInBounds_toArray, List.set_cons_zero, List.set_cons_succ]
                  refine g_take (i := 10) (d := (some 89)) (v := ?_) rfl rfl (by kernel_rfl) (fun _ _ _ h => h) (by rfl) (fun w' hb' => ?_) ?_
                  rotate_left
                  · (try go_simp); (try with_reducible rfl)
                  try simp only [Act.put, List.setIfInBounds_toArray, List.set_cons_zero, List.set_cons_succ]
                  refine g_take (i := 11) (d := (some 90)) (v := ?_) rfl rfl (by kernel_rfl) (fun _ _ _ h => h) (by rfl) (fun w' hb' => ?_) ?_
                  rotate_left
                  · have zz := (hb'.cell (p := ⟨ba, oa, none⟩) hba).trans a0; (try go_simp); (try with_reducible rfl)
                  try simp only [Act.put, List.setIfInBounds_toArray, List.set_cons_zero, List.set_cons_succ]
                  refine g_take (i := 12) (d := (some 91)) (v := ?_) rfl rfl (by kernel_rfl) (fun _ _ _ h => h) (by rfl) (fun w' hb' => ?_) ?_
                  rotate_left
                  · (try go_simp); (try with_reducible rfl)
                  try simp only [Act.put, List.setIfInBounds_toArray, List.set_cons_zero, List.set_cons_succ]
                  refine g_take (i := 13) (d := (some 92)) (v := ?_) rfl rfl (by kernel_rfl) (fun _ _ _ h => h) (by rfl) (fun w' hb' => ?_) ?_
                  rotate_left
                  · (try go_simp); (try with_reducible rfl)
                  try simp only [Act.put, List.setIfInBounds_toArray, List.set_cons_zero, List.set_cons_succ]
                  refine g_take (i := 14) (d := (some 78)) (v := ?_) rfl rfl (by kernel_rfl) (fun _ _ _ h => h) (by rfl) (fun w' hb' => ?_) ?_
                  rotate_left
                  · (try go_simp); (try with_reducible rfl)
                  try simp only [Act.put, List.setIfInBounds_toArray, List.set_cons_zero, List.set_cons_succ]
                  refine g_done (by kernel_rfl) ?_
                  simp only [noP]
                  go_wp2_with fail
                  refine wp_noP ?_
                  refine g_start (by kernel_rfl) ?_
                  refine g_take (i := 0) (d := (some 19)) (v := ?_) rfl rfl (by kernel_rfl) (fun _ _ _ h => h) (by rfl) (fun w' hb' => ?_) ?_
                  rotate_left
                  · (try go_simp); (try with_reducible rfl)
                  try simp only [Act.put, List.setIfInBounds_toArray, List.set_cons_zero, List.set_cons_succ]
                  refine g_take (i := 1) (d := (some 20)) (v := ?_) rfl rfl (by kernel_rfl) (fun _ _ _ h => h) (by rfl) (fun w' hb' => ?_) ?_
                  rotate_left
                  · (try go_simp); (try with_reducible rfl)
                  try simp only [Act.put, List.setIfInBounds_toArray, List.set_cons_zero, List.set_cons_succ]
                  refine g_take (i := 2) (d := (some 21)) (v := ?_) rfl rfl (by kernel_rfl) (fun _ _ _ h => h) (by rfl) (fun w' hb' => ?_) ?_
                  rotate_left
                  · (try go_simp); (try with_reducible rfl)
                  try simp only [Act.put, List.setIfInBounds_toArray, List.set_cons_zero, List.set_cons_succ]
                  refine g_take (i := 3) (d := (some 22)) (v := ?_) rfl rfl (by kernel_rfl) (fun _ _ _ h => h) (by rfl) (fun w' hb' => ?_) ?_
                  rotate_left
                  · have z1 := (hb'.cell (p := ⟨ba, oa + 1, none⟩) hba).trans a1; have z2 := (hb'.cell (p := ⟨ba, oa + 2, none⟩) hba).trans a2; have z3 := (hb'.cell (p := ⟨ba, oa + 3, none⟩) hba).trans a3; (try go_simp); (try with_reducible rfl)
                  try simp only [Act.put, List.setIfInBounds_toArray, List.set_cons_zero, List.set_cons_succ]
                  refine g_take (i := 4) (d := (some 23)) (v := ?_) rfl rfl (by kernel_rfl) (fun _ _ _ h => h) (by rfl) (fun w' hb' => ?_) ?_
                  rotate_left
                  · (try go_simp); (try with_reducible rfl)
                  try simp only [Act.put, List.setIfInBounds_toArray, List.set_cons_zero, List.set_cons_succ]
                  refine g_take (i := 5) (d := (some 24)) (v := ?_) rfl rfl (by kernel_rfl) (fun _ _ _ h => h) (by rfl) (fun w' hb' => ?_) ?_
                  rotate_left
                  · (try go_simp); (try with_reducible rfl)
                  try simp only [Act.put, List.setIfInBounds_toArray, List.set_cons_zero, List.set_cons_succ]
                  refine g_take (i := 6) (d := (some 25)) (v := ?_) rfl rfl (by kernel_rfl) (fun _ _ _ h => h) (by rfl) (fun w' hb' => ?_) ?_
                  rotate_left
                  · (try go_simp); (try with_reducible rfl)
                  try simp only [Act.put, List.setIfInBounds_toArray, List.set_cons_zero, List.set_cons_succ]
                  refine g_take (i := 7) (d := (some 26)) (v := ?_) rfl rfl (by kernel_rfl) (fun _ _ _ h => h) (by rfl) (fun w' hb' => ?_) ?_
                  rotate_left
                  · have z1 := (hb'.cell (p := ⟨bb, ob + 1, none⟩) hbb).trans b1; have z2 := (hb'.cell (p := ⟨bb, ob + 2, none⟩) hbb).trans b2; have z3 := (hb'.cell (p := ⟨bb, ob + 3, none⟩) hbb).trans b3; (try go_simp); (try with_reducible rfl)
                  try simp only [Act.put, List.setIfInBounds_toArray, List.set_cons_zero, List.set_cons_succ]
                  refine g_take (i := 8) (d := (some 27)) (v := ?_) rfl rfl (by kernel_rfl) (fun _ _ _ h => h) (by rfl) (fun w' hb' => ?_) ?_
                  rotate_left
                  · (refine valE_neq_op _ _ (.tmp 22) (.tmp 26) 43 xa.v xb.v true HV.out ?_ ?_ ?_ _ <;> rfl); (try go_simp); (try with_reducible rfl)
                  try simp only [Act.put, List.setIfInBounds_toArray, List.set_cons_zero, List.set_cons_succ]
                  refine g_done (by kernel_rfl) ?_
                  simp only [noP]
                  go_wp2_with fail
                  refine wp_noP ?_
                  have SH : TyS tyE wr wr.drew.drew.drew.drew ∧ wr.drew.drew.drew.drew.heap[w.heap.size + 2]? = some (.cells #[uu] 57 (0, 0)) := ⟨(TyS.refl _ _).below (Below.refl _ _).drew.drew.drew.drew, US.out.q4⟩
                  refine v_start 12 ((fun W => TyS tyE wr W ∧ W.heap[w.heap.size + 2]? = some (.cells #[uu] 57 (0, 0)))) (by kernel_rfl) ?_
                  refine v_take (i := 0) (d := (some 28)) (v := ?_) rfl rfl (by kernel_rfl) (fun _ _ _ h => h) (by rfl) SH (fun w' hb' => ?_) ?_
                  rotate_left
                  · have zz := block_cell hb'.2 0; (try go_simp); (try with_reducible rfl)
                  try simp only [Act.put, List.setIfInBounds_toArray, List.set_cons_zero, List.set_cons_succ]
                  refine v_take (i := 1) (d := (some 29)) (v := ?_) rfl rfl (by kernel_rfl) (fun _ _ _ h => h) (by rfl) SH (fun w' hb' => ?_) ?_
                  rotate_left
                  · (try go_simp); (try with_reducible rfl)
                  try simp only [Act.put, List.setIfInBounds_toArray, List.set_cons_zero, List.set_cons_succ]
                  refine v_take (i := 2) (d := (some 30)) (v := ?_) rfl rfl (by kernel_rfl) (fun _ _ _ h => h) (by rfl) SH (fun w' hb' => ?_) ?_
                  rotate_left
                  · (try go_simp); (try with_reducible rfl)
                  try simp only [Act.put, List.setIfInBounds_toArray, List.set_cons_zero, List.set_cons_succ]
                  refine v_take (i := 3) (d := (some 31)) (v := ?_) rfl rfl (by kernel_rfl) (fun _ _ _ h => h) (by rfl) SH (fun w' hb' => ?_) ?_
                  rotate_left
                  · (try go_simp); (try with_reducible rfl)
                  try simp only [Act.put, List.setIfInBounds_toArray, List.set_cons_zero, List.set_cons_succ]
                  refine v_take (i := 4) (d := (some 32)) (v := ?_) rfl rfl (by kernel_rfl) (fun _ _ _ h => h) (by rfl) SH (fun w' hb' => ?_) ?_
                  rotate_left
                  · have zz := (ld_head US.out.ra hb'.1).1; (try go_simp); (try with_reducible rfl)
                  try simp only [Act.put, List.setIfInBounds_toArray, List.set_cons_zero, List.set_cons_succ]
                  refine v_take (i := 5) (d := (some 33)) (v := ?_) rfl rfl (by kernel_rfl) (fun _ _ _ h => h) (by rfl) SH (fun w' hb' => ?_) ?_
                  rotate_left
                  · (try go_simp); (try with_reducible rfl)
                  try simp only [Act.put, List.setIfInBounds_toArray, List.set_cons_zero, List.set_cons_succ]
                  refine v_take (i := 6) (d := (some 34)) (v := ?_) rfl rfl (by kernel_rfl) (fun _ _ _ h => h) (by rfl) SH (fun w' hb' => ?_) ?_
                  rotate_left
                  · (try go_simp); (try with_reducible rfl)
                  try simp only [Act.put, List.setIfInBounds_toArray, List.set_cons_zero, List.set_cons_succ]
                  refine v_take (i := 7) (d := (some 35)) (v := ?_) rfl rfl (by kernel_rfl) (fun _ _ _ h => h) (by rfl) SH (fun w' hb' => ?_) ?_
                  rotate_left
                  · (try go_simp); (try with_reducible rfl)
                  try simp only [Act.put, List.setIfInBounds_toArray, List.set_cons_zero, List.set_cons_succ]
                  refine v_take (i := 8) (d := (some 36)) (v := ?_) rfl rfl (by kernel_rfl) (fun _ _ _ h => h) (by rfl) SH (fun w' hb' => ?_) ?_
                  rotate_left
                  · obtain ⟨-, z1, z2, z3⟩ := ld_head US.out.ra hb'.1; (try go_simp); (try with_reducible rfl)
                  try simp only [Act.put, List.setIfInBounds_toArray, List.set_cons_zero, List.set_cons_succ]
                  refine v_run (i := 9) rfl (by kernel_rfl) (by kernel_rfl) (by rfl) (fun K hK => ?_)
                  go_simp
                  refine hK _ _ ⟨SH, ?_⟩
                  clear hK K
                  try simp only [Act.put, List.setIfInBounds_toArray, List.set_cons_zero, List.set_cons_succ]
                  refine v_run (i := 10) rfl (by kernel_rfl) (by kernel_rfl) (by rfl) (fun K hK => ?_)
                  go_simp
                  have bA := ((Below.refl wr.heap.size wr).alloc (Nat.le_refl _) (.cells #[.string (str xa.key), .int .i64 xa.v.k, .int .i64 xa.v.i, .string (str xa.v.s)] 68)).drew.drew.drew.drew
                  have q8 := heap_alloc_new wr (.cells #[.string (str xa.key), .int .i64 xa.v.k, .int .i64 xa.v.i, .string (str xa.v.s)] 68)
                  have ownA := own_keep US.out.own bA
                  refine hK _ _ (and_keep ⟨(TyS.refl _ _).below bA, (bA.block _ hl4).trans US.out.q4⟩ fun SH2 => ?_)
                  clear hK K SH
                  have SH := SH2
                  clear SH2
                  try simp only [Act.put, List.setIfInBounds_toArray, List.set_cons_zero, List.set_cons_succ]
                  refine v_run (i := 11) rfl (by kernel_rfl) (by kernel_rfl) (by rfl) (fun K hK => ?_)
                  obtain ⟨v9, W9, hrun, own9, gr⟩ := app_ed _ _ _ _ ownA _ ((⟨xa.key, xa.v⟩ : Ed)) q8 (by have := bA.size; omega) (by have := HL.out; omega)
                  obtain ⟨vo, vn, vc, rfl⟩ := own_slice own9
                  obtain ⟨q9, LA9, LB9, US9⟩ := us_app US.out bA (Nat.le_refl _) own9 gr
                  refine op_append (.tmp 28) (.tmp 38) 57 57 rfl rfl _ _ (.slice vo vn vc) W9 rfl rfl hrun ?_
                  refine hK _ _ (and_keep ⟨SH.1.grown ownA (.inl rfl) gr, q9⟩ fun SH2 => ?_)
                  clear hK K SH hrun gr ownA
                  have SH := SH2
                  clear SH2
                  try simp only [Act.put, List.setIfInBounds_toArray, List.set_cons_zero, List.set_cons_succ]
                  refine v_last (i := 12) rfl (by kernel_rfl) (by kernel_rfl) (by kernel_rfl) (by rfl) (fun K hK => ?_)
                  have y9 := block_cell q9 0
                  have f9 := fun i => block_frozen q9 i
                  go_simp
                  refine hK _ _ ?_
                  clear hK K y9 f9
                  simp only [noP]
                  go_wp2_with fail
                  refine wp_noP ?_
                  refine g_start (by kernel_rfl) ?_
                  refine g_take (i := 0) (d := (some 40)) (v := ?_) rfl rfl (by kernel_rfl) (fun _ _ _ h => h) (by rfl) (fun w' hb' => ?_) ?_
                  rotate_left
                  · (try go_simp); (try with_reducible rfl)
                  try simp only [Act.put, List.setIfInBounds_toArray, List.set_cons_zero, List.set_cons_succ]
                  refine g_take (i := 1) (d := (some 41)) (v := ?_) rfl rfl (by kernel_rfl) (fun _ _ _ h => h) (by rfl) (fun w' hb' => ?_) ?_
                  rotate_left
                  · (refine slice1_op (.tmp 40) (.const (.int .i64 1)) ?_ (some ⟨ba, oa, none⟩) na ca ?_ ?_ hna hca <;> rfl); (try go_simp); (try with_reducible rfl)
                  try simp only [Act.put, List.setIfInBounds_toArray, List.set_cons_zero, List.set_cons_succ]
                  refine g_take (i := 2) (d := (some 42)) (v := ?_) rfl rfl (by kernel_rfl) (fun _ _ _ h => h) (by rfl) (fun w' hb' => ?_) ?_
                  rotate_left
                  · (try go_simp); (try with_reducible rfl)
                  try simp only [Act.put, List.setIfInBounds_toArray, List.set_cons_zero, List.set_cons_succ]
                  refine g_take (i := 3) (d := (some 43)) (v := ?_) rfl rfl (by kernel_rfl) (fun _ _ _ h => h) (by rfl) (fun w' hb' => ?_) ?_
                  rotate_left
                  · (refine slice1_op (.tmp 42) (.const (.int .i64 1)) ?_ (some ⟨bb, ob, none⟩) nb cb ?_ ?_ hnb hcb <;> rfl); (try go_simp); (try with_reducible rfl)
                  try simp only [Act.put, List.setIfInBounds_toArray, List.set_cons_zero, List.set_cons_succ]
                  refine g_take (i := 4) (d := (some 6)) (v := ?_) rfl rfl (by kernel_rfl) (fun _ _ _ h => h) (by rfl) (fun w' hb' => ?_) ?_
                  rotate_left
                  · (try go_simp); (try with_reducible rfl)
                  try simp only [Act.put, List.setIfInBounds_toArray, List.set_cons_zero, List.set_cons_succ]
                  refine g_take (i := 5) (d := (some 7)) (v := ?_) rfl rfl (by kernel_rfl) (fun _ _ _ h => h) (by rfl) (fun w' hb' => ?_) ?_
                  rotate_left
                  · (try go_simp); (try with_reducible rfl)
                  try simp only [Act.put, List.setIfInBounds_toArray, List.set_cons_zero, List.set_cons_succ]
                  refine g_done (by kernel_rfl) ?_
                  simp only [noP]
                  go_wp2_with fail
                  exact ⟨⟨_, _, _, _, _, _, rfl, rfl, _, _, _, _, Lib.hid (US9.drew.ta.tb), Lib.hid (by rw [← HE2.out]; simp), Lib.hid (by have := HL.out; simp; omega)⟩, by simp [lenV]; omega⟩
end Go.Proofs.YtbdfcgffkonbiaaDoor
