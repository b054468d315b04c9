/- Stores: what the laws share. Written by wip/tools/gen13lb.py. -/
/- Stores: the document's Edit and Take. Written by wip/tools/gen13k.py. -/
import Derived.Test.YtbdfcgffkonbiaaDoorQST45
import Derived.Test.YtbdfcgffkonbiaaDoorQST40
import Derived.Test.YtbdfcgffkonbiaaDoorQST22
namespace Go.Proofs.YtbdfcgffkonbiaaDoor
open Go Go.RowKit
set_option linter.unusedVariables false
set_option linter.unusedSimpArgs false
theorem sameS_refl (s : St) : sameS s s = true := by
  unfold sameS
  rw [sameT_iff.2 fun b _ => ⟨rfl, rfl⟩]; simp
theorem pSame_self {s : St} (h : mayS s = true) : pSameS s s = true := by
  unfold pSameS tSame
  rw [h, mayS_t h, sameT_iff.2 fun b _ => ⟨rfl, rfl⟩]; simp
theorem pSame_no {s t : St} (h : mayS s = false) : pSameS s t = false := by unfold pSameS; rw [h]; rfl
theorem infoV (a b c : Value) : (Tryd.prog.info? 43).map (·.size) = some (#[a, b, c] : Array Value).size := by kernel_rfl
theorem valE_eql (x : V7.V) (w : World) : (binOp .eql 43 (.agg #[.int .i64 x.k, .int .i64 x.i, .string (str x.s)]) (.agg #[.int .i64 x.k, .int .i64 x.i, .string (str x.s)])).run Tryd.prog w = .ok (.bool true) w := by
  obtain ⟨b, c, d⟩ := x
  go_simp
theorem valE_zero (w : World) : (binOp .eql 43 (.agg #[.int .i64 0, .int .i64 0, .string (str [])]) (.agg #[.int .i64 0, .int .i64 0, .string (ByteArray.mk #[])])).run Tryd.prog w = .ok (.bool true) w := valE_eql ⟨0, 0, []⟩ w
theorem lsEq_refl (l : List It) : lsEq l l = true := by unfold lsEq; simp
theorem fewS_idem (s : St) : fewS (fewS s) = fewS s := by
  unfold fewS
  simp only [fewL_idem]
theorem take_len {s : St} {l : List Ed} (hsz : SzT s.lv) (hwf : WfT s.lv) (hwe : WfE l) : ∀ b, b < 16 → ((takeE s l).2.lv b).length ≤ 100 := by
  have hz : ∀ b, b < 16 → (stQ.lv b).length ≤ 100 := fun b _ => by simp [stQ]
  unfold takeE
  by_cases h1 : okS s = false
  · rw [if_pos h1]; exact hz
  · rw [if_neg h1]
    have hok : okS s = true := by simpa using h1
    cases hb : badE l 0 with
    | some j => exact hz
    | none =>
      show ∀ b, b < 16 → ((takeB s l).2.lv b).length ≤ 100
      unfold takeB
      by_cases h2 : (goE (s.ver + 1) s.lv s.vs l 0).1.1 = 0
      · rw [if_neg (by rw [h2]; simp)]
        by_cases h3 : fitsB (nextS s (goE (s.ver + 1) s.lv s.vs l 0).2.1 (goE (s.ver + 1) s.lv s.vs l 0).2.2) = true
        · rw [if_pos h3]
          obtain ⟨g0, hv⟩ := okS_gt hok hsz hwf
          exact (go_gt hv l 0 g0 (bad_none hb) hwe).h100
        · rw [if_neg h3]; exact hz
      · rw [if_pos h2]; exact hz
/-- What taking edits hands back, plainly. -/
def TakeP (W : World) (c i : Int) (t : St) (e : Ending) (w' : World) : Prop := ∃ C, e = .returned (.tuple #[.agg C, .int .i64 c, .int .i64 i]) ∧ C.size = 35 ∧ C.all (·.oneCell') = true ∧ RdS w' C t ∧ Below W.heap.size W w'
theorem takeZ_P {W : World} {cs : Array Value} {s t : St} {l : List Ed} {c i : Nat} {e : Ending} {w' : World} (h : RdS W cs s) (hE : takeE s l = ((c, i), t)) (hz : TakeZ W cs s l e w') : TakeP W c i t e w' := by
  obtain ⟨C, rfl, HS, b⟩ := hz
  rw [hE] at HS ⊢
  have h0 : RdS w' C t := (HS.out (fun _ => False) (fun _ h => h.elim) (noP_rd h.tr)).rd
  exact ⟨C, rfl, h0.size, Array.all_eq_true_iff_forall_mem.2 fun u hu => h0.one u (by simpa using hu), h0, b⟩
end Go.Proofs.YtbdfcgffkonbiaaDoor
namespace Go.Proofs.YtbdfcgffkonbiaaDoor
open Go Go.RowKit
set_option linter.unusedVariables false
set_option linter.unusedSimpArgs false
set_option maxRecDepth 100000 in
theorem refEdit_any (x : Ed) (w : World) (tab : TabAt w) (hk : x.key.length ≤ maxLen) (hs : x.v.s.length ≤ maxLen) :
    Calls Tryd.prog 76 #[edV x] w fun e w' => e = .returned (.bool (mayE x)) ∧ Below w.heap.size w w' := by
  unfold edV
  have bA := (Below.refl w.heap.size w).alloc (Nat.le_refl _) (.cells #[.string (str x.key), .int .i64 x.v.k, .int .i64 x.v.i, .string (str x.v.s)] 68)
  have q1 := heap_alloc_new w (.cells #[.string (str x.key), .int .i64 x.v.k, .int .i64 x.v.i, .string (str x.v.s)] 68)
  have c0 := block_cell q1 0
  have c1 := block_cell q1 1
  have c2 := block_cell q1 2
  have c3 := block_cell q1 3
  have KI0 := (refIs_any x.key hk) _ (tab.below bA)
  have VM0 := fun W => V7.refMay_any x.v.k x.v.i x.v.s W hs
  have hm : mayE x = (isB x.key && V7.mayB ⟨x.v.k, x.v.i, x.v.s⟩) := rfl
  obtain ⟨R, hR⟩ : ∃ R, R = mayE x := ⟨_, rfl⟩
  rw [← hR]
  rw [← hR] at hm
  clear hR tab
  have HBA := Lib.hid bA
  obtain ⟨W1, hW1⟩ : ∃ W, W = w.alloc (.cells #[.string (str x.key), .int .i64 x.v.k, .int .i64 x.v.i, .string (str x.v.s)] 68) := ⟨_, rfl⟩
  rw [← hW1] at KI0 c0 c1 c2 c3 HBA
  cases hkb : isB x.key with
  | false =>
    rw [hkb] at KI0 hm
    have KI := Lib.hid KI0
    have HM := Lib.hid hm
    clear KI0 VM0 hkb hm bA q1
    subst hW1
    go_enter Tryd.func76, Tryd.ntmps76
    go_wp2_with fail
    refine KI.out.mono ?_
    rintro e w1 ⟨rfl, g⟩
    have HG := Lib.hid (chain HBA.out g)
    clear g
    go_wp2_with fail
    go_ret
    exact ⟨by rw [HM.out]; rfl, HG.out⟩
  | true =>
    rw [hkb] at KI0 hm
    have KI := Lib.hid KI0
    obtain ⟨VB, hVB⟩ : ∃ B, B = V7.mayB ⟨x.v.k, x.v.i, x.v.s⟩ := ⟨_, rfl⟩
    rw [← hVB] at hm VM0
    have HM := Lib.hid hm
    have VM := Lib.hid VM0
    clear KI0 VM0 hkb hm bA hVB
    have hl1 := lt_of_block q1
    rw [← hW1] at hl1
    clear q1
    subst hW1
    go_enter Tryd.func76, Tryd.ntmps76
    go_wp2_with fail
    refine KI.out.mono ?_
    rintro e w1 ⟨rfl, g⟩
    replace c1 := (g.cell (p := ⟨w.heap.size, 1, none⟩) hl1).trans c1
    replace c2 := (g.cell (p := ⟨w.heap.size, 2, none⟩) hl1).trans c2
    replace c3 := (g.cell (p := ⟨w.heap.size, 3, none⟩) hl1).trans c3
    have HG := Lib.hid (chain HBA.out g)
    clear g
    go_wp2_with fail
    refine (VM.out _).mono ?_
    rintro e w2 ⟨rfl, g⟩
    have HG2 := Lib.hid (chain HG.out g)
    clear g
    go_wp2_with fail
    go_ret
    exact ⟨by rw [HM.out]; rfl, HG2.out⟩
theorem trO_safe {w w' : World} {cs : Array Value} {lv : Nat → List It} {vs : Nat → Int} {b : Nat} {l : List It} {ver : Int} {e : Ending} (hb : b < 16) (hr : RdT w cs lv vs) (h : TrO w cs b l ver e w') :
    ∃ ct, e = .returned (.tuple #[.agg ct, .int .i64 0]) ∧ ct.size = 32 ∧ ct.all (·.oneCell') = true ∧ Hid (∀ P : Nat → Prop, (∀ k, P k → k < w.heap.size) → SafeP P w cs lv vs → SafeP P w' ct (upd lv b l) (upd vs b ver)) ∧ Below w.heap.size w w' := by
  obtain ⟨u, rfl, own, g⟩ := h
  have RC : RdT w' ((cs.setIfInBounds b u).setIfInBounds (16 + b) (.int .i64 ver)) (upd lv b l) (upd vs b ver) := (hr.below g (Nat.le_refl _)).put hb (own_rdk itC_len own)
  exact ⟨_, rfl, RC.size, RC.one, Lib.hid fun P hP hS => (hS.below g).put hb own hP, g⟩
def Own2 (n : Nat) : Nat → Prop := fun k => n ≤ k ∧ k < n + 2
theorem own2_lt {P : Nat → Prop} {n m : Nat} (hP : ∀ k, P k → k < n) (h : n + 2 ≤ m) : ∀ k, (P k ∨ Own2 n k) → k < m := by
  intro k hk
  rcases hk with hk | hk
  · have := hP k hk; omega
  · have := hk.2; omega
structure Tr (Sf : (Nat → Prop) → Prop) (n : Nat) (s : St) (V1 : Int) (l : List Ed) (k : Nat) (C : Array Value) (lv : Nat → List It) (vs : Nat → Int) (w : World) : Prop where
  size : C.size = 35
  c32 : C[32]? = some (.int .i64 V1)
  c33 : C[33]? = some (.int .i64 s.by_)
  c34 : C[34]? = some (.int .i64 s.ke)
  q1 : w.heap[n]? = some (.cells C 28 (0, 0))
  q2 : w.heap[n + 1]? = some (.cells zS 28 (0, 0))
  none : Sf fun _ => False
  safe : ∀ P : Nat → Prop, (∀ k, P k → k < n) → Sf P → SafeP (fun k => P k ∨ Own2 n k) w (tC C) lv vs
  gt : GT lv vs V1
  vr : verB V1 = true
  ve : V1 = s.ver + 1
  go : goE V1 s.lv s.vs l 0 = goE V1 lv vs (l.drop k) k
theorem Tr.rds {Sf : (Nat → Prop) → Prop} {n : Nat} {s : St} {V1 : Int} {l : List Ed} {k : Nat} {C : Array Value} {lv : Nat → List It} {vs : Nat → Int} {w : World} (h : Tr Sf n s V1 l k C lv vs w) : RdS w C (nextS s lv vs) :=
  ⟨h.size, (h.safe _ (fun _ h => h.elim) h.none).rd, by rw [h.c32, h.ve]; rfl, h.c33, h.c34⟩
theorem tr_start {w wr W2 : World} {cs : Array Value} {s : St} {V1 : Int} (h : RdS w cs s) (hok : okS s = true) (hsz : SzT s.lv) (hwf : WfT s.lv) (hV : V1 = s.ver + 1) (hW : W2 = wr.setCell ⟨w.heap.size, 32, none⟩ (.int .i64 V1)) (bel : Below w.heap.size w wr)
    (q1 : wr.heap[w.heap.size]? = some (.cells cs 28 (0, 0))) (q2 : wr.heap[w.heap.size + 1]? = some (.cells zS 28 (0, 0))) (l : List Ed) :
    Tr (fun P => SafeP P w (tC cs) s.lv s.vs) w.heap.size s V1 l 0 (cs.setIfInBounds 32 (.int .i64 V1)) s.lv s.vs W2 := by
  obtain ⟨g1, g2⟩ := okS_gt hok hsz hwf
  have hs := h.size
  subst hV hW
  refine ⟨by simpa using hs, Array.getElem?_setIfInBounds_self_of_lt (by omega), by rw [Array.getElem?_setIfInBounds_ne (by omega)]; exact h.by_, by rw [Array.getElem?_setIfInBounds_ne (by omega)]; exact h.ke, set_at q1, (set_old (by omega)).trans q2, noP_rd h.tr, fun P hP hS => ?_, g1, g2, rfl, rfl⟩
  rw [tC_set hs (Nat.le_refl _)]
  have h1 : SafeP (fun k => P k ∨ Own2 w.heap.size k) w (tC cs) s.lv s.vs := fun W hW => hS W fun k hk hn => hW k hk (fun h => h.elim hn fun h => absurd h.1 (by omega))
  exact h1.later (by have := bel.size; simp; omega) fun k hk _ => (set_old (by omega)).trans (bel.block k hk)
/-- Behind an edit, whatever world is laid over: the store's block holds another trunk. -/
theorem tr_next {Sf : (Nat → Prop) → Prop} {n : Nat} {s : St} {V1 : Int} {l : List Ed} {k : Nat} {C : Array Value} {lv : Nat → List It} {vs : Nat → Int} {w w3 : World} (h : Tr Sf n s V1 l k C lv vs w) {hlt : k < l.length} {x : Ed} (hx : l[k] = x) (he : apE lv vs x V1 = 0) (hm : mayE x = true) (hw : x.v.Wf) (g : Below w.heap.size w w3)
    {ct : Array Value} (hct : ct.size = 32) (hS : ∀ P : Nat → Prop, (∀ k, P k → k < n) → Sf P → SafeP (fun k => P k ∨ Own2 n k) w3 ct (apLv lv vs x V1) (apVs lv vs x V1)) :
    Tr Sf n s V1 l (k + 1) (putA C 0 ct.toList) (apLv lv vs x V1) (apVs lv vs x V1) (w3.setCells n 0 ct.toList) := by
  have l4 := lt_of_block h.q2
  have b := fun k hk => g.block k hk
  refine ⟨by rw [putA_size]; exact h.size, (putA_rest hct (by omega)).trans h.c32, (putA_rest hct (by omega)).trans h.c33, (putA_rest hct (by omega)).trans h.c34, sets_row _ _ _ _ ((b _ (by omega)).trans h.q1), (sets_other (by omega) _ _ _).trans ((b _ (by omega)).trans h.q2), h.none, fun P hP hQ => ?_, h.gt.step hm hw h.vr he, h.vr, h.ve, ?_⟩
  · rw [tC_putA h.size hct]
    exact (hS P hP hQ).later (sets_below (B := 0) (w0 := w3) (Nat.zero_le _) _ _ _ (Below.refl 0 w3)).size fun k hk hp => sets_other (fun e => hp (.inr (by subst e; exact ⟨Nat.le_refl _, by omega⟩))) _ _ _
  · rw [h.go, go_yes hlt (by rw [hx]; exact he), hx]
theorem tr_same {Sf : (Nat → Prop) → Prop} {n : Nat} {s : St} {V1 : Int} {l : List Ed} {k : Nat} {C : Array Value} {lv : Nat → List It} {vs : Nat → Int} {w w3 : World} (h : Tr Sf n s V1 l k C lv vs w) {hlt : k < l.length} {x : Ed} (hx : l[k] = x) (he : apE lv vs x V1 = 0) (h1 : apLv lv vs x V1 = lv) (h2 : apVs lv vs x V1 = vs) (g : Below w.heap.size w w3) :
    Tr Sf n s V1 l (k + 1) C lv vs w3 := by
  have l4 := lt_of_block h.q2
  refine ⟨h.size, h.c32, h.c33, h.c34, (g.block _ (by omega)).trans h.q1, (g.block _ (by omega)).trans h.q2, h.none, fun P hP hQ => (h.safe P hP hQ).below g, h.gt, h.vr, h.ve, ?_⟩
  rw [h.go, go_yes hlt (by rw [hx]; exact he), hx, h1, h2]
theorem results_ctt {P : Program} {fn : Func} {p q r : Tmp} {t1 : TypeId} (h : fn.results = #[.cell p t1, .tmp q, .tmp r]) (tmps : Array Value) (w : World) (g1 : Nat) (u v x : Value)
    (hp : tmps.getD p undef = .pointer (some ⟨g1, 0, none⟩)) (hq : tmps.getD q undef = v) (hr : tmps.getD r undef = x)
    (l1 : (loadVar t1 ⟨g1, 0, none⟩).run P w = .ok u w) :
    (results fn tmps).run P w = .ok (.tuple #[u, v, x]) w := by
  have hp' : tmps[p]?.getD undef = .pointer (some ⟨g1, 0, none⟩) := by simpa using hp
  have hq' : tmps[q]?.getD undef = v := by simpa using hq
  have hr' : tmps[r]?.getD undef = x := by simpa using hr
  simp [results, h, hp', hq', hr', asAddr, l1]
end Go.Proofs.YtbdfcgffkonbiaaDoor
